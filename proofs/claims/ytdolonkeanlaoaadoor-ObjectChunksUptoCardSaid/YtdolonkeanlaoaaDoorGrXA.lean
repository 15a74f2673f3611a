/- The walk of the reference's value: lists. Contracts: the reference's Decode. The walk of same: two memories of one value. Contracts: the makers of values; the walk of copyList. -/
import Derived.Test.YtdolonkeanlaoaaDoorGrTW
import Derived.Test.YtdolonkeanlaoaaDoorGrLS
import Derived.Test.YtdolonkeanlaoaaDoorGrFK
import Derived.Deep.QuietTactic
import Derived.BigQuiet
import Derived.StillTailTactics
namespace Go.Proofs.YtdolonkeanlaoaaDoor
open Go.RowKit

/-- The cells of a list's value, at a block of their own. -/
structure ListAt (w : World) (b : Nat) (v : Value) : Prop where
  c0 : w.cell? ⟨b, 0, none⟩ = some (.int .i64 3)
  c1 : w.cell? ⟨b, 1, none⟩ = some (.int .u64 0)
  c2 : w.cell? ⟨b, 2, none⟩ = some (.slice none 0 0)
  c3 : w.cell? ⟨b, 3, none⟩ = some (.float .f64 0)
  c4 : w.cell? ⟨b, 4, none⟩ = some v
  z4 : w.frozen? ⟨b, 4, none⟩ = false
theorem ListAt.new (w : World) : ListAt (w.alloc (.cells #[.int .i64 3, .int .u64 0, .slice none 0 0, .float .f64 0, .slice none 0 0] 53)) w.heap.size (.slice none 0 0) := by
  obtain ⟨⟨c0, c1, c2, c3, c4⟩, z0, z1, z2, z3, z4⟩ := five_cells (new_five w #[.int .i64 3, .int .u64 0, .slice none 0 0, .float .f64 0, .slice none 0 0] 53)
  exact ⟨c0, c1, c2, c3, c4, z4⟩
theorem ListAt.kept {w w' : World} {b : Nat} {v : Value} (h : ListAt w b v) (e : w'.heap[b]? = w.heap[b]?) : ListAt w' b v :=
  ⟨(World.cell?_of_block (w := w) e).trans h.c0, (World.cell?_of_block (w := w) e).trans h.c1, (World.cell?_of_block (w := w) e).trans h.c2, (World.cell?_of_block (w := w) e).trans h.c3, (World.cell?_of_block (w := w) e).trans h.c4, (frozen_block e).trans h.z4⟩
theorem ListAt.set {w : World} {b : Nat} {v : Value} (h : ListAt w b v) (u : Value) : ListAt (w.setCell ⟨b, 4, none⟩ u) b u := by
  obtain ⟨c0, c1, c2, c3, c4, z4⟩ := h
  refine ⟨?_, ?_, ?_, ?_, ?_, ?_⟩ <;> simp [go_sem, c0, c1, c2, c3, c4, z4]
theorem Rows5.set {B : Nat} {w : World} {n b : Nat} {v : Value} {qs : List Five} {ys : List Val} (h : Rows5 B w n v qs ys) (hb : b < B) (u : Value) : Rows5 B (w.setCell ⟨b, 4, none⟩ u) n v qs ys :=
  ⟨ownsRow_setCell_below h.own hb u, h.len, fun j q y hq hy => ReadsS.kept (fun k hk => ⟨⟨hk.1, by simpa using hk.2.1, hk.2.2⟩, Below.heap_setCell _ _ _ _ (by simp; omega)⟩) n _ _ (h.each j q y hq hy)⟩
theorem five_src1 (w : World) (o : Obj) (k u : Int) (a1 a2 : Option Addr) (n1 c1 n2 c2 fb : Nat) : Src Tryd.prog 5 51 (.slice (some ⟨w.heap.size + 1, 0, none⟩) 1 1) 1 [.int .i64 k, .int .u64 u, .slice a1 n1 c1, .float .f64 fb, .slice a2 n2 c2]
    ((w.alloc o).alloc (.cells #[.int .i64 k, .int .u64 u, .slice a1 n1 c1, .float .f64 fb, .slice a2 n2 c2] 53)) := by
  have h := five_src (w.alloc o) k u a1 a2 n1 c1 n2 c2 fb
  rw [show (w.alloc o).heap.size = w.heap.size + 1 by simp] at h
  exact h
theorem own5_slice {w : World} {B n : Nat} {v : Value} {xs : List Value} (h : w.ownsRow B 53 5 v n xs) : ∃ a c, v = .slice a n c := by
  rcases h.2 with ⟨e, hn⟩ | ⟨g, cap, cur, e, _⟩
  · rw [hn]; exact ⟨none, 0, e⟩
  · exact ⟨_, _, e⟩
end Go.Proofs.YtdolonkeanlaoaaDoor
namespace Go.Proofs.YtdolonkeanlaoaaDoor
open Go.RowKit

def RDecAnswers (w : World) (r : Except Int Val) (e : Ending) (w' : World) : Prop :=
  match r with
  | .ok x => ∃ v, e = .returned (.tuple #[v, .int .i64 0]) ∧ ReadsS (fun k => w.heap.size ≤ k ∧ k < w'.heap.size) w' 16 v x ∧ Below w.heap.size w w'
  | .error c => e = .returned (.tuple #[.agg #[.int .i64 0, .int .u64 0, .slice none 0 0, .float .f64 0, .slice none 0 0], .int .i64 c]) ∧ c ≠ 0 ∧ Below w.heap.size w w'
end Go.Proofs.YtdolonkeanlaoaaDoor
namespace Go.Proofs.YtdolonkeanlaoaaDoor
open Go.RowKit

def Deep : Nat → Val → Prop
  | 0, _ => False
  | n + 1, .mk _ _ _ _ l => ∀ x ∈ l, Deep n x
theorem BytesIn.drewN {B : Nat} {w : World} {v : Value} {l : List UInt8} (h : BytesIn B w v l) (n : Nat) : BytesIn B (w.drewN n) v l := by
  rcases h with h | ⟨a, cap, h1, h2, h3⟩
  · exact Or.inl h
  · exact Or.inr ⟨a, cap, h1, h2, fun j u hj => by simpa [go_sem] using h3 j u hj⟩
theorem listD_all {g : List UInt8 → Except Int (Val × List UInt8)} {P : Val → Prop} (hg : ∀ {l x r}, g l = .ok (x, r) → P x) : ∀ (m : Nat) (l : List UInt8) {xs : List Val} {r : List UInt8}, listD g m l = .ok (xs, r) → ∀ x ∈ xs, P x
  | 0, l, xs, r, h => by simp only [listD] at h; injection h with h; injection h with h1 h2; subst h1; simp
  | m + 1, l, xs, r, h => by
    simp only [listD] at h
    cases hl : g l with
    | error c => rw [hl] at h; cases h
    | ok y =>
      obtain ⟨x, r1⟩ := y
      rw [hl] at h
      simp only at h
      cases hm : listD g m r1 with
      | error c => rw [hm] at h; cases h
      | ok z =>
        obtain ⟨ys, r2⟩ := z
        rw [hm] at h
        injection h with h
        injection h with h1 h2
        subst h1 h2
        intro y hy
        rcases List.mem_cons.1 hy with rfl | hy
        · exact hg hl
        · exact listD_all hg m r1 hm y hy
theorem valD_deep : ∀ {n : Nat} {l : List UInt8} {x : Val} {r : List UInt8}, valD n l = .ok (x, r) → Deep n x
  | 0, _, _, _, h => by simp only [valD] at h; cases h
  | n + 1, l, x, r, h => by
    simp only [valD] at h
    cases hh : headD l with
    | error c => rw [hh] at h; cases h
    | ok y =>
      obtain ⟨k, m, r1⟩ := y
      rw [hh] at h
      simp only at h
      split at h
      · injection h with h; injection h with h _; subst h; intro y hy; simp at hy
      split at h
      · split at h
        · cases h
        · injection h with h; injection h with h _; subst h; intro y hy; simp at hy
      split at h
      · cases hf : floatD m r1 with
        | error c => rw [hf] at h; cases h
        | ok z =>
          obtain ⟨f, r2⟩ := z
          rw [hf] at h
          injection h with h; injection h with h _; subst h; intro y hy; simp at hy
      · cases hd : listD (valD n) m r1 with
        | error c => rw [hd] at h; cases h
        | ok z =>
          obtain ⟨xs, r2⟩ := z
          rw [hd] at h
          injection h with h; injection h with h _; subst h
          exact listD_all (fun e => valD_deep e) m r1 hd
end Go.Proofs.YtdolonkeanlaoaaDoor
namespace Go.Proofs.YtdolonkeanlaoaaDoor
open Go.RowKit

set_option maxRecDepth 100000 in
set_option maxHeartbeats 400000 in
theorem num_any (n : Nat) (w : World) : Calls Tryd.prog 41 #[.int .u64 n] w fun e w' => e = .returned (.agg #[.int .i64 0, .int .u64 n, .slice none 0 0, .float .f64 0, .slice none 0 0]) ∧ Below w.heap.size w w' := by
  have hst := run_storeF
  go_enter Tryd.func41, Tryd.ntmps41
  go_wp2_with fail
  refine bodyPost_ret (v := .agg #[.int .i64 0, .int .u64 n, .slice none 0 0, .float .f64 0, .slice none 0 0]) (by simp [results, Tryd.results41, go_sem]) rfl ⟨rfl, ?_⟩
  exact (Below.refl _ w).alloc (Nat.le_refl _) _
set_option maxRecDepth 100000 in
set_option maxHeartbeats 400000 in
theorem real_any (f : Nat) (w : World) : Calls Tryd.prog 33 #[.float .f64 f] w fun e w' => e = .returned (.agg #[.int .i64 2, .int .u64 0, .slice none 0 0, .float .f64 (canonB f), .slice none 0 0]) ∧ Below w.heap.size w w' := by
  have hst := run_storeF
  have HC := Lib.hid (canon_any f)
  generalize canonB f = c at *
  go_enter Tryd.func33, Tryd.ntmps33
  go_wp2_with fail
  refine (HC.out _).mono ?_
  rintro e w' ⟨rfl, rfl⟩
  go_wp2_with fail
  refine bodyPost_ret (v := .agg #[.int .i64 2, .int .u64 0, .slice none 0 0, .float .f64 c, .slice none 0 0]) (by simp [results, Tryd.results33, go_sem]) rfl ⟨rfl, ?_⟩
  exact (Below.refl _ w).alloc (Nat.le_refl _) _
set_option maxRecDepth 100000 in
set_option maxHeartbeats 400000 in
theorem text_any (l : List UInt8) (w : World) (hl : l.length ≤ 1048576) : Calls Tryd.prog 34 #[.string ⟨l.toArray⟩] w fun e w' => ∃ v, e = .returned (.agg #[.int .i64 1, .int .u64 0, v, .float .f64 0, .slice none 0 0]) ∧
    BytesC (fun k => w.heap.size ≤ k ∧ k < w'.heap.size) w' v l ∧ Below w.heap.size w w' := by
  have hst := run_storeF
  obtain ⟨cap, w2, hcv, hbc, hbl, hs2⟩ := conv_new (w.alloc (.cells #[.int .i64 0, .int .u64 0, .slice none 0 0, .float .f64 0, .slice none 0 0] 53)) l hl
  have hsa : (w.alloc (.cells #[.int .i64 0, .int .u64 0, .slice none 0 0, .float .f64 0, .slice none 0 0] 53)).heap.size = w.heap.size + 1 := by simp
  rw [hsa] at hcv hbc hs2
  have hst1 : RStart w w2 := RStart.of hbl
  obtain ⟨⟨c0, c1, c2, c3, c4⟩, z0, z1, z2, z3, z4⟩ := five_cells hst1.blk
  have HB := Lib.hid hst1
  have HC := Lib.hid hbc
  have HS := Lib.hid hs2
  clear hbc hbl hsa hs2 hst1
  go_enter Tryd.func34, Tryd.ntmps34
  go_wp2_with fail
  obtain ⟨r0, r1, r2, r3, r4⟩ := set5_cells c0 c1 c2 c3 c4 (.int .i64 1) (.int .u64 0) (.slice (some ⟨w.heap.size + 1, 0, none⟩) l.length cap) (.float .f64 0) (.slice none 0 0)
  unfold set5 at r0 r1 r2 r3 r4
  refine bodyPost_ret (v := .agg #[.int .i64 1, .int .u64 0, .slice (some ⟨w.heap.size + 1, 0, none⟩) l.length cap, .float .f64 0, .slice none 0 0]) (by simp [results, Tryd.results34, go_sem, r0, r1, r2, r3, r4]) rfl ⟨_, rfl, ?_, HB.out.fin _ _ _ _ _⟩
  refine HC.out.kept (w' := set5 w2 w.heap.size (.int .i64 1) (.int .u64 0) (.slice (some ⟨w.heap.size + 1, 0, none⟩) l.length cap) (.float .f64 0) (.slice none 0 0)) (fun k hk => ⟨⟨by omega, ?_⟩, set5_block _ _ _ _ _ _ _ _ (by omega)⟩)
  have e := set5_size w2 w.heap.size (.int .i64 1) (.int .u64 0) (.slice (some ⟨w.heap.size + 1, 0, none⟩) l.length cap) (.float .f64 0) (.slice none 0 0)
  unfold set5 at e
  omega
def CopyOk (n : Nat) : Prop := ∀ (S : Nat → Prop) (vl : Value) (l : List Val) (w : World), (∀ k, S k → k < w.heap.size) → l.length ≤ 1048576 → (∀ x ∈ l, Deep n x) → ListS S w (ReadsS S w n) vl l →
    Calls Tryd.prog 66 #[vl] w fun e w' => ∃ v, e = .returned v ∧ ListS (fun k => w.heap.size ≤ k ∧ k < w'.heap.size) w' (ReadsS (fun k => w.heap.size ≤ k ∧ k < w'.heap.size) w' n) v l ∧ Below w.heap.size w w'
set_option maxRecDepth 100000 in
set_option maxHeartbeats 400000 in
theorem copy_none (n : Nat) (a : Option Addr) (c : Nat) (w : World) : Calls Tryd.prog 66 #[.slice a 0 c] w fun e w' => ∃ v, e = .returned v ∧ ListS (fun k => w.heap.size ≤ k ∧ k < w'.heap.size) w' (ReadsS (fun k => w.heap.size ≤ k ∧ k < w'.heap.size) w' n) v [] ∧ Below w.heap.size w w' := by
  go_enter Tryd.func66, Tryd.ntmps66
  go_wp2_with fail
  go_loopw [3, 8] (fun v i wr => v = .slice none 0 0 ∧ i = .int .i64 0 ∧ wr = w) (fun _ _ _ => 0)
  case atStart => exact ⟨rfl, rfl, rfl⟩
  case round =>
    obtain ⟨rfl, rfl, rfl⟩ := hrel
    go_wp2_with fail
    go_ret
    exact ⟨_, rfl, Or.inl ⟨rfl, rfl⟩, Below.refl _ _⟩
theorem ListS.kept {S S' : Nat → Prop} {w w' : World} {n : Nat} {v : Value} {l : List Val} (hl : l.length ≤ 1048576) (h : ListS S w (ReadsS S w n) v l) (hk : ∀ k, S k → S' k ∧ w'.heap[k]? = w.heap[k]?) : ListS S' w' (ReadsS S' w' n) v l := by
  have h1 : ReadsS S w (n + 1) (.agg #[.int .i64 0, .int .u64 (0 : Nat), .slice none 0 0, .float .f64 0, v]) (.mk 0 0 [] 0 l) := ⟨_, _, rfl, by omega, by omega, by simp, hl, Or.inl ⟨rfl, rfl⟩, h⟩
  obtain ⟨vb, vl, e, _, _, _, _, _, h2⟩ := ReadsS.kept hk (n + 1) _ _ h1
  injection e with e
  have e2 : [Value.int .i64 0, .int .u64 (0 : Nat), .slice none 0 0, .float .f64 0, v] = [.int .i64 0, .int .u64 (0 : Nat), vb, .float .f64 0, vl] := by injection e
  injection e2 with _ e2
  injection e2 with _ e2
  injection e2 with _ e2
  injection e2 with _ e2
  injection e2 with e2 _
  rw [e2]; exact h2
theorem Rows5.grow {B : Nat} {w w2 w4 : World} {n : Nat} {v v' : Value} {qs : List Five} {ys : List Val} {q : Five} {y : Val} {o : Obj} (h : Rows5 B w n v qs ys) (hB : B ≤ w.heap.size) (hs2 : w.heap.size ≤ w2.heap.size) (hk : ∀ k, B ≤ k → k < w.heap.size → w2.heap[k]? = w.heap[k]?)
    (hy : ReadsS (fun k => w.heap.size ≤ k ∧ k < w2.heap.size) w2 n q.agg y) (hg : Grew (w2.alloc o) w4 v v') (hown : w4.ownsRow B 53 5 v' (qs.length + 1) (qs.flatMap Five.flat ++ q.flat)) : Rows5 B w4 n v' (qs ++ [q]) (ys ++ [y]) := by
  have hs4 := hg.size
  simp at hs4
  have hvb : ∀ k, v.ownBlock = some k → B ≤ k ∧ k < w.heap.size := fun k hk => World.ownsRow.lt h.own k hk
  have keep : ∀ k, B ≤ k → k < w2.heap.size → v.ownBlock ≠ some k → (B ≤ k ∧ k < w4.heap.size ∧ v'.ownBlock ≠ some k) ∧ w4.heap[k]? = w2.heap[k]? := by
    intro k k1 k2 k3
    refine ⟨⟨k1, by omega, fun e => ?_⟩, ?_⟩
    · rcases hg.own k e with e2 | e2
      · exact k3 e2
      · simp at e2; omega
    · rw [hg.gb.block k (by simp; omega) (fun e => k3 e.symm), Below.heap_alloc _ _ _ k2]
  refine ⟨?_, by simp [h.len], fun j p z hp hz => ?_⟩
  · rw [List.flatMap_append, List.length_append]; simpa using hown
  · by_cases hj : j < qs.length
    · rw [List.getElem?_append_left hj] at hp
      rw [List.getElem?_append_left (by rw [← h.len]; exact hj)] at hz
      refine ReadsS.kept (fun k hk1 => ?_) n _ _ (h.each j p z hp hz)
      obtain ⟨k1, k2, k3⟩ := hk1
      have a := keep k k1 (by omega) k3
      exact ⟨a.1, a.2.trans (hk k k1 k2)⟩
    · have hj2 : j = qs.length := by
        have := (List.getElem?_eq_some_iff.1 hp).1
        simp at this; omega
      subst hj2
      rw [List.getElem?_append_right (Nat.le_refl _), Nat.sub_self] at hp
      rw [h.len, List.getElem?_append_right (Nat.le_refl _), Nat.sub_self] at hz
      simp at hp hz
      subst hp hz
      refine ReadsS.kept (fun k hk1 => ?_) n _ _ hy
      exact keep k (by omega) hk1.2 (fun e => by have := hvb k e; omega)
set_option maxRecDepth 100000 in
set_option maxHeartbeats 2000000 in
theorem copy_step (n : Nat) (hIH : CopyOk n) : CopyOk (n + 1) := by
  intro S vl l w hS hl hD hL
  have hst := run_storeF
  obtain ⟨i0, hi, hz0, hz1, hz2⟩ := info_parts Tryd.info53
  obtain ⟨sa, sc, rfl⟩ := hL.shape
  have HS := Lib.hid hS
  have HD := Lib.hid hD
  have HL := Lib.hid hL
  have HI := Lib.hid hIH
  clear hS hD hL hIH
  go_enter Tryd.func66, Tryd.ntmps66
  go_wp2_with fail
  go_loopw [3, 8] (fun v i wr => ∃ (k : Nat) (qs : List Five), k ≤ l.length ∧ i = .int .i64 k ∧ qs.length = k ∧ Rows5 w.heap.size wr (n + 1) v qs (l.take k) ∧ Below w.heap.size w wr)
    (fun _ i _ => l.length - (intOf i).toNat)
  case atStart => exact ⟨0, [], Nat.zero_le _, rfl, rfl, Rows5.nil _ _ _, Below.refl _ _⟩
  case round =>
    obtain ⟨k, qs, hk, rfl, hqk, hrows, hbel⟩ := hrel
    have HRW := Lib.hid hrows
    have HBL := Lib.hid hbel
    have HQK := Lib.hid hqk
    have hsz := hbel.size
    clear hrows hqk
    by_cases hlt : k < l.length
    · rcases HL.out with ⟨_, h0⟩ | ⟨g, o, cap, hv, hlc, hcm, hSg, hc⟩
      · rw [h0] at hlt; simp at hlt
      obtain ⟨x, hx⟩ : ∃ x, l[k]? = some x := ⟨_, List.getElem?_eq_getElem hlt⟩
      have HDX := Lib.hid (HD.out x (List.mem_of_getElem? hx))
      have HTK : Hid (l.take (k + 1) = l.take k ++ [x]) := Lib.hid (by
        rw [List.take_succ_eq_append_getElem hlt]
        rw [List.getElem?_eq_getElem hlt] at hx
        injection hx with hx
        rw [hx])
      obtain ⟨c0, c1, c2, c3, c4, e0, e1, e2, e3, e4, hR⟩ := hc k x hx
      injection hv with hv1 _ hv2
      subst hv1 hv2
      have hgw := HS.out g hSg
      have d0 := (hbel.cell (p := ⟨g, o + k * 5, none⟩) hgw).trans e0
      have d1 := (hbel.cell (p := ⟨g, o + k * 5 + 1, none⟩) hgw).trans e1
      have d2 := (hbel.cell (p := ⟨g, o + k * 5 + 2, none⟩) hgw).trans e2
      have d3 := (hbel.cell (p := ⟨g, o + k * 5 + 3, none⟩) hgw).trans e3
      have d4 := (hbel.cell (p := ⟨g, o + k * 5 + 4, none⟩) hgw).trans e4
      obtain ⟨xk, xu, xb, xf, xl⟩ := x
      obtain ⟨vb, vl, hag, hu, hf, hbl, hll, hB, hLL⟩ := hR
      have hsh2 : [c0, c1, c2, c3, c4] = [.int .i64 xk, .int .u64 xu, vb, .float .f64 xf, vl] := by
        injection hag with hag; injection hag
      injection hsh2 with s0 hsh2
      injection hsh2 with s1 hsh2
      injection hsh2 with s2 hsh2
      injection hsh2 with s3 hsh2
      injection hsh2 with s4 hsh2
      subst s0 s1 s2 s3 s4
      obtain ⟨ba, bc, rfl⟩ := hB.shape
      obtain ⟨la, lc, rfl⟩ := hLL.shape
      have HB := Lib.hid hB
      have HLL := Lib.hid hLL
      have HU := Lib.hid hu
      have HF := Lib.hid hf
      clear e0 e1 e2 e3 e4 hag hsh2 hB hLL hc hx hu hf
      have keep : ∀ (w' : World), (∀ j, j < w.heap.size → w'.heap[j]? = wr.heap[j]?) → ∀ j, S j → S j ∧ w'.heap[j]? = w.heap[j]? := fun w' h j hj => ⟨hj, (h j (HS.out j hj)).trans (HBL.out.block j (HS.out j hj))⟩
      have HK := Lib.hid keep
      clear keep
      go_wp2_with fail
      have hbw1 : ∀ j, j < wr.heap.size → (wr.alloc (.cells #[.int .i64 xk, .int .u64 xu, .slice ba xb.length bc, .float .f64 xf, .slice la xl.length lc] 53)).heap[j]? = wr.heap[j]? := fun j hj => Below.heap_alloc _ _ _ hj
      refine (clone_any S _ xb _ hbl (fun j hj => by have := HS.out j hj; simp; omega) (HB.out.kept (HK.out _ (fun j hj => hbw1 j (by omega))))).mono ?_
      rintro e w2 ⟨v2, rfl, hb2, hbe2⟩
      have hs2 := hbe2.size
      simp at hs2
      obtain ⟨va, vc, rfl⟩ := hb2.shape
      have hblk2 := (hbe2.block wr.heap.size (by simp)).trans (new_five wr _ _)
      have hbw2 : ∀ j, j < wr.heap.size → w2.heap[j]? = wr.heap[j]? := fun j hj => (hbe2.block j (by simp; omega)).trans (hbw1 j hj)
      obtain ⟨⟨p0, p1, p2, p3, p4⟩, z0, z1, z2, z3, z4⟩ := five_cells hblk2
      have HB2 := Lib.hid hb2
      have HBW2 := Lib.hid hbw2
      have HBE2 := Lib.hid hbe2
      clear hb2 hbe2 hblk2 hbw2 hbw1 d0 d1 d2 d3 d4
      have hbw3 : ∀ j, j < wr.heap.size → (w2.setCell ⟨wr.heap.size, 2, none⟩ (.slice va xb.length vc)).heap[j]? = wr.heap[j]? := fun j hj => (Below.heap_setCell _ _ _ _ (by simp; omega)).trans (HBW2.out j hj)
      have HR := Lib.hid (HI.out S (.slice la xl.length lc) xl (w2.setCell ⟨wr.heap.size, 2, none⟩ (.slice va xb.length vc)) (fun j hj => by have := HS.out j hj; simp; omega) hll HDX.out
        (HLL.out.kept hll (HK.out _ (fun j hj => hbw3 j (by omega)))))
      have q0 : (w2.setCell ⟨wr.heap.size, 2, none⟩ (.slice va xb.length vc)).cell? ⟨wr.heap.size, 0, none⟩ = some (.int .i64 xk) := by simpa [go_sem] using p0
      have q1 : (w2.setCell ⟨wr.heap.size, 2, none⟩ (.slice va xb.length vc)).cell? ⟨wr.heap.size, 1, none⟩ = some (.int .u64 xu) := by simpa [go_sem] using p1
      have q2 : (w2.setCell ⟨wr.heap.size, 2, none⟩ (.slice va xb.length vc)).cell? ⟨wr.heap.size, 2, none⟩ = some (.slice va xb.length vc) := World.cell?_setCell_same _ _ _ p2
      have q3 : (w2.setCell ⟨wr.heap.size, 2, none⟩ (.slice va xb.length vc)).cell? ⟨wr.heap.size, 3, none⟩ = some (.float .f64 xf) := by simpa [go_sem] using p3
      have q4 : (w2.setCell ⟨wr.heap.size, 2, none⟩ (.slice va xb.length vc)).cell? ⟨wr.heap.size, 4, none⟩ = some (.slice la xl.length lc) := by simpa [go_sem] using p4
      have y4 : (w2.setCell ⟨wr.heap.size, 2, none⟩ (.slice va xb.length vc)).frozen? ⟨wr.heap.size, 4, none⟩ = false := by simpa [go_sem] using z4
      have Q := Lib.hid (And.intro q0 (And.intro q1 (And.intro q2 (And.intro q3 (And.intro q4 y4)))))
      have HBW3 := Lib.hid hbw3
      have HB3 := Lib.hid (((HBL.out.alloc (by omega) _).trans (HBE2.out.mono (by simp; omega))).setCell (p := ⟨wr.heap.size, 2, none⟩) (by simp; omega) (.slice va xb.length vc))
      have hs3 : (w2.setCell ⟨wr.heap.size, 2, none⟩ (.slice va xb.length vc)).heap.size = w2.heap.size := by simp
      have HS3 := Lib.hid hs3
      have hw3b : ∀ j, j ≠ wr.heap.size → (w2.setCell ⟨wr.heap.size, 2, none⟩ (.slice va xb.length vc)).heap[j]? = w2.heap[j]? := fun j hj => Below.heap_setCell _ _ _ _ hj
      have HW3B := Lib.hid hw3b
      clear q0 q1 q2 q3 q4 y4 hbw3 hs3 hw3b
      go_wp2_with fail
      clear p0 p1 p2 p3 p4 z0 z1 z2 z3 z4
      generalize w2.setCell ⟨wr.heap.size, 2, none⟩ (.slice va xb.length vc) = w3 at *
      refine HR.out.mono ?_
      rintro e w4 ⟨v4, rfl, hl4, hbe4⟩
      obtain ⟨v4a, v4c, rfl⟩ := hl4.shape
      have hs4 := hbe4.size
      have hs3 := HS3.out
      obtain ⟨q0, q1, q2, q3, q4, y4⟩ := Q.out
      have p0 := (hbe4.cell (p := ⟨wr.heap.size, 0, none⟩) (by show wr.heap.size < _; omega)).trans q0
      have p1 := (hbe4.cell (p := ⟨wr.heap.size, 1, none⟩) (by show wr.heap.size < _; omega)).trans q1
      have p2 := (hbe4.cell (p := ⟨wr.heap.size, 2, none⟩) (by show wr.heap.size < _; omega)).trans q2
      have p3 := (hbe4.cell (p := ⟨wr.heap.size, 3, none⟩) (by show wr.heap.size < _; omega)).trans q3
      have p4 := (hbe4.cell (p := ⟨wr.heap.size, 4, none⟩) (by show wr.heap.size < _; omega)).trans q4
      have z4 := (hbe4.frozen (p := ⟨wr.heap.size, 4, none⟩) (by show wr.heap.size < _; omega)).trans y4
      have hbw4 : ∀ j, j < wr.heap.size → (w4.setCell ⟨wr.heap.size, 4, none⟩ (.slice v4a xl.length v4c)).heap[j]? = wr.heap[j]? := fun j hj =>
        (Below.heap_setCell _ _ _ _ (by simp; omega)).trans ((hbe4.block j (by omega)).trans (HBW3.out j hj))
      have hreads : ReadsS (fun j => wr.heap.size ≤ j ∧ j < w4.heap.size) (w4.setCell ⟨wr.heap.size, 4, none⟩ (.slice v4a xl.length v4c)) (n + 1) (.agg #[.int .i64 xk, .int .u64 xu, .slice va xb.length vc, .float .f64 xf, .slice v4a xl.length v4c]) (.mk xk xu xb xf xl) := by
        refine ⟨_, _, rfl, HU.out, HF.out, hbl, hll, ?_, ?_⟩
        · refine HB2.out.kept (fun j hj => ?_)
          simp at hj
          refine ⟨⟨by omega, by omega⟩, ?_⟩
          exact (Below.heap_setCell _ _ _ _ (by simp; omega)).trans ((hbe4.block j (by omega)).trans (HW3B.out j (by omega)))
        · exact hl4.kept hll (fun j hj => ⟨⟨by omega, hj.2⟩, Below.heap_setCell _ _ _ _ (by simp; omega)⟩)
      have hs5 : (w4.setCell ⟨wr.heap.size, 4, none⟩ (.slice v4a xl.length v4c)).heap.size = w4.heap.size := by simp
      rw [← hs5] at hreads
      have HRD := Lib.hid hreads
      have HBW4 := Lib.hid hbw4
      have hown0 : (w4.setCell ⟨wr.heap.size, 4, none⟩ (.slice v4a xl.length v4c)).ownsRow w.heap.size 53 5 u3 qs.length (qs.flatMap Five.flat) := own_below HRW.out.own (fun j _ hj => hbw4 j hj)
      have HBE := Lib.hid ((HB3.out.trans (hbe4.mono (by omega))).setCell (p := ⟨wr.heap.size, 4, none⟩) (by simp; omega) (.slice v4a xl.length v4c))
      have hsrc := five_src (w4.setCell ⟨wr.heap.size, 4, none⟩ (.slice v4a xl.length v4c)) xk xu va v4a xb.length vc xl.length v4c xf
      rw [hs5] at hsrc
      rw [HQK.out] at hown0
      clear hreads hbw4 hbe4 hl4 hs5 q0 q1 q2 q3 q4 y4
      go_wp2_with (at_builtin; refine wpList_own_src _ rfl _ _ 51 51 rfl w.heap.size 53 i0 _ 5 72 Tryd.underlying51 hi hz0 hz1 hz2 rfl (by decide) _ _ _ rfl (hown0.alloc _) _ 1 _ rfl hsrc ?c3 ?c4 ?c5 ?_)
      case c3 => unfold maxLen; omega
      case c4 => omega
      case c5 => simp; omega
      intro v6 w6 hown6 hg6
      have hvb : ∀ j, u3.ownBlock = some j → w.heap.size ≤ j := fun j hj => (World.ownsRow.lt hown0 j hj).1
      rw [← HQK.out] at hown6
      have HN := Lib.hid (Rows5.grow (q := ⟨_, _, _, _, _⟩) HRW.out hsz (by simp; omega) (fun j _ hj => HBW4.out j hj) HRD.out hg6 hown6)
      have HBN := Lib.hid ((HBE.out.alloc (by simp; omega) _).grown hg6.gb (by simp; omega) hvb)
      clear hown0 hown6 hg6 hvb hsrc p0 p1 p2 p3 p4 z4
      go_wp2_with fail
      go_roundw
      case rel => exact ⟨k + 1, qs ++ [⟨.int .i64 xk, .int .u64 xu, .slice va xb.length vc, .float .f64 xf, .slice v4a xl.length v4c⟩], by omega, by go_num, by have := HQK.out; simp; omega, by rw [HTK.out]; exact HN.out, HBN.out⟩
      case measure => simp [intOf]; omega
    · have hkl : k = l.length := by omega
      subst hkl
      go_wp2_with fail
      go_ret
      have hr := HRW.out.list
      rw [List.take_length] at hr
      exact ⟨_, rfl, hr, HBL.out⟩
theorem copy_ok : ∀ n, CopyOk n
  | 0 => by
    intro S vl l w _ _ hD hL
    have e : l = [] := by
      cases l with
      | nil => rfl
      | cons x l => exact (hD x (List.mem_cons_self)).elim
    subst e
    obtain ⟨sa, sc, rfl⟩ := hL.shape
    exact copy_none 0 sa sc w
  | n + 1 => copy_step n (copy_ok n)
set_option maxRecDepth 100000 in
set_option maxHeartbeats 400000 in
theorem row_any (n : Nat) (S : Nat → Prop) (vl : Value) (l : List Val) (w : World) (hS : ∀ k, S k → k < w.heap.size) (hl : l.length ≤ 1048576) (hD : ∀ x ∈ l, Deep n x) (hL : ListS S w (ReadsS S w n) vl l) :
    Calls Tryd.prog 43 #[vl] w fun e w' => ∃ v, e = .returned (.agg #[.int .i64 3, .int .u64 0, .slice none 0 0, .float .f64 0, v]) ∧ ListS (fun k => w.heap.size ≤ k ∧ k < w'.heap.size) w' (ReadsS (fun k => w.heap.size ≤ k ∧ k < w'.heap.size) w' n) v l ∧ Below w.heap.size w w' := by
  have hst := run_storeF
  have HC := Lib.hid (copy_ok n S vl l (w.alloc (.cells #[.int .i64 0, .int .u64 0, .slice none 0 0, .float .f64 0, .slice none 0 0] 53)) (fun k hk => by have := hS k hk; simp; omega) hl hD (hL.kept hl (fun k hk => ⟨hk, Below.heap_alloc _ _ _ (hS k hk)⟩)))
  clear hL hD hS
  go_enter Tryd.func43, Tryd.ntmps43
  go_wp2_with fail
  refine HC.out.mono ?_
  rintro e w2 ⟨v, rfl, hv, hb⟩
  obtain ⟨va, vc, rfl⟩ := hv.shape
  have hst1 : RStart w w2 := RStart.of hb
  obtain ⟨⟨c0, c1, c2, c3, c4⟩, z0, z1, z2, z3, z4⟩ := five_cells hst1.blk
  have HB := Lib.hid hst1
  have HV := Lib.hid hv
  clear hb hv hst1
  go_wp2_with fail
  obtain ⟨r0, r1, r2, r3, r4⟩ := set5_cells c0 c1 c2 c3 c4 (.int .i64 3) (.int .u64 0) (.slice none 0 0) (.float .f64 0) (.slice va l.length vc)
  unfold set5 at r0 r1 r2 r3 r4
  have hfin : ListS (fun k => w.heap.size ≤ k ∧ k < (set5 w2 w.heap.size (.int .i64 3) (.int .u64 0) (.slice none 0 0) (.float .f64 0) (.slice va l.length vc)).heap.size) (set5 w2 w.heap.size (.int .i64 3) (.int .u64 0) (.slice none 0 0) (.float .f64 0) (.slice va l.length vc))
      (ReadsS (fun k => w.heap.size ≤ k ∧ k < (set5 w2 w.heap.size (.int .i64 3) (.int .u64 0) (.slice none 0 0) (.float .f64 0) (.slice va l.length vc)).heap.size) (set5 w2 w.heap.size (.int .i64 3) (.int .u64 0) (.slice none 0 0) (.float .f64 0) (.slice va l.length vc)) n) (.slice va l.length vc) l :=
    HV.out.kept hl (fun k hk => by simp at hk; exact ⟨⟨by omega, by rw [set5_size]; omega⟩, set5_block _ _ _ _ _ _ _ _ (by omega)⟩)
  exact bodyPost_ret (v := .agg #[.int .i64 3, .int .u64 0, .slice none 0 0, .float .f64 0, .slice va l.length vc]) (by simp [results, Tryd.results43, go_sem, r0, r1, r2, r3, r4]) rfl ⟨_, rfl, hfin, HB.out.fin _ _ _ _ _⟩
end Go.Proofs.YtdolonkeanlaoaaDoor
