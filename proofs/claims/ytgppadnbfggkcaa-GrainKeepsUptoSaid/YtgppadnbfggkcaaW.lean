/- The walk of the reference's value: all but lists. -/
import Derived.Test.YtgppadnbfggkcaaV
namespace Go.Proofs.Ytgppadnbfggkcaa
open Go.RowKit

def RValGives (s : List UInt8) (t : Nat) (w : World) (n : Nat) (r : Except Int (Val × List UInt8)) (e : Ending) (w' : World) : Prop :=
  match r with
  | .ok (x, l) => ∃ v t', e = .returned (.tuple #[v, .int .i64 (t' : Nat), .int .i64 0]) ∧ t ≤ t' ∧ t' ≤ s.length ∧ s.drop t' = l ∧ ReadsS (fun k => w.heap.size ≤ k ∧ k < w'.heap.size) w' n v x ∧ Below w.heap.size w w'
  | .error c => ∃ t' : Nat, e = .returned (.tuple #[.agg #[.int .i64 0, .int .u64 0, .slice none 0 0, .float .f64 0, .slice none 0 0], .int .i64 t', .int .i64 c]) ∧ c ≠ 0 ∧ Below w.heap.size w w'
def RValueOk (n : Nat) : Prop := ∀ (s : List UInt8) (t a : Nat) (w : World), a + n = 16 → s.length ≤ 1048576 → t ≤ s.length →
    Calls Try.prog 26 #[.string ⟨s.toArray⟩, .int .i64 t, .int .i64 (a + 1 : Nat)] w (RValGives s t w n (valD n (s.drop t)))
theorem headLoop_err : ∀ (l : List UInt8) (s n : Nat) {c : Int}, headLoop s n l = .error c → c ≠ 0
  | [], s, n, c, h => by simp only [headLoop] at h; injection h with h; subst h; decide
  | p :: l, s, n, c, h => by
    simp only [headLoop] at h
    split at h
    · injection h with h; subst h; decide
    split at h
    · exact headLoop_err l _ _ h
    · cases h
theorem headD_err {l : List UInt8} {c : Int} (h : headD l = .error c) : c ≠ 0 := by
  cases l with
  | nil => simp only [headD] at h; injection h with h; subst h; decide
  | cons p l =>
    simp only [headD] at h
    split at h
    · cases hl : headLoop 5 (p.toNat % 128 / 4) l with
      | error e => rw [hl] at h; injection h with h; subst h; exact headLoop_err l _ _ hl
      | ok y => rw [hl] at h; cases h
    · cases h
set_option maxRecDepth 100000 in
set_option maxHeartbeats 1000000 in
theorem rvalue_deep : RValueOk 0 := by
  intro s t a w ha hl ht
  have e : a = 16 := by omega
  subst e
  have hst := run_storeF
  have H5 := Lib.hid (five_cells (new_five w #[.int .i64 0, .int .u64 0, .slice none 0 0, .float .f64 0, .slice none 0 0] 27))
  go_enter Try.func26, Try.ntmps26
  obtain ⟨⟨c0, c1, c2, c3, c4⟩, z0, z1, z2, z3, z4⟩ := H5.out
  go_wp2_with fail
  exact bodyPost_ret (v := .tuple #[.agg #[.int .i64 0, .int .u64 0, .slice none 0 0, .float .f64 0, .slice none 0 0], .int .i64 t, .int .i64 24]) (by simp [results, Try.results26, go_sem, c0, c1, c2, c3, c4]) rfl
    ⟨t, rfl, by decide, (Below.refl _ _).alloc (Nat.le_refl _) _⟩
theorem extract_list (s : List UInt8) (i j : Nat) : (⟨s.toArray⟩ : ByteArray).extract i j = ⟨((s.drop i).take (j - i)).toArray⟩ := by
  apply ByteArray.ext
  simp [ByteArray.data_extract, List.extract_eq_take_drop]
theorem conv_new (w : World) (l : List UInt8) (hl : l.length ≤ 1048576) : ∃ cap w2, (convert 9 23 (.string ⟨l.toArray⟩)).run Try.prog w = .ok (.slice (some ⟨w.heap.size, 0, none⟩) l.length cap) w2 ∧
    BytesC (fun k => w.heap.size ≤ k ∧ k < w2.heap.size) w2 (.slice (some ⟨w.heap.size, 0, none⟩) l.length cap) l ∧ Below w.heap.size w w2 ∧ w2.heap.size = w.heap.size + 1 := by
  have h := run_bytes_of_string (P := Try.prog) w 9 23 5 ⟨l.toArray⟩ Try.underlying9 Try.underlying23 Try.underlying5
  have hsz : (⟨l.toArray⟩ : ByteArray).size = l.length := by simp [ByteArray.size]
  rw [hsz] at h
  have hge := grownCap_ge w l.length 0 5
  have hcm := grownCap_le_maxLen w l.length 0 5 (by unfold maxLen; omega)
  refine ⟨_, _, h, Or.inr ⟨_, _, rfl, hge, hcm, Or.inr ⟨Nat.le_refl _, by simp⟩, fun j u hj => ?_⟩, (Below.refl _ w).drew.alloc (Nat.le_refl _) _, by simp⟩
  have e : (⟨w.heap.size, 0, none⟩ : Addr).add j = ⟨w.heap.size, j, none⟩ := by simp [Addr.add]; omega
  rw [e, show w.heap.size = w.drew.heap.size from rfl, World.cell?_alloc_mark]
  have hjl : j < l.length := by have := (List.getElem?_eq_some_iff.1 hj).1; rwa [bv_len] at this
  rw [bytesRow_at _ _ _ (by simpa using hjl)]
  rw [← hj]
  unfold bv
  rw [List.getElem?_map, List.getElem?_eq_getElem hjl]
  simp
/-- What the start leaves: the answer's cells, and all that was there. -/
structure RStart (w w1 : World) : Prop where
  blk : w1.heap[w.heap.size]? = some (.cells #[.int .i64 0, .int .u64 0, .slice none 0 0, .float .f64 0, .slice none 0 0] 27 (0, 0))
  below : Below w.heap.size w w1
  size : w.heap.size + 1 ≤ w1.heap.size
theorem RStart.of {w w1 : World} (h : Below (w.alloc (.cells #[.int .i64 0, .int .u64 0, .slice none 0 0, .float .f64 0, .slice none 0 0] 27)).heap.size (w.alloc (.cells #[.int .i64 0, .int .u64 0, .slice none 0 0, .float .f64 0, .slice none 0 0] 27)) w1) : RStart w w1 :=
  ⟨(h.block w.heap.size (by simp)).trans (new_five w _ _), ((Below.refl _ _).alloc (Nat.le_refl _) _).trans (h.mono (by simp)), by have := h.size; simp at this; omega⟩
theorem RStart.step {w w1 w2 : World} (h : RStart w w1) (hb : Below w1.heap.size w1 w2) : RStart w w2 :=
  ⟨(hb.block w.heap.size (by have := h.size; omega)).trans h.blk, h.below.trans (hb.mono (by have := h.size; omega)), by have := h.size; have := hb.size; omega⟩
theorem RStart.fin {w w1 : World} (h : RStart w w1) (v0 v1 v2 v3 v4 : Value) : Below w.heap.size w (set5 w1 w.heap.size v0 v1 v2 v3 v4) :=
  below_of (set5_grown (b := w.heap.size) (row := none) (of_below h.below) (Nat.le_refl _) v0 v1 v2 v3 v4)
theorem RStart.reads {w w1 : World} {n : Nat} {x : Val} {v0 v1 v2 v3 v4 : Value} (hx : ReadsS (fun k => w.heap.size < k ∧ k < w1.heap.size) w1 n (.agg #[v0, v1, v2, v3, v4]) x) :
    ReadsS (fun k => w.heap.size ≤ k ∧ k < (set5 w1 w.heap.size v0 v1 v2 v3 v4).heap.size) (set5 w1 w.heap.size v0 v1 v2 v3 v4) n (.agg #[v0, v1, v2, v3, v4]) x :=
  ReadsS.kept (fun k hk => ⟨⟨by omega, by rw [set5_size]; exact hk.2⟩, set5_block _ _ _ _ _ _ _ _ (by omega)⟩) n _ _ hx
set_option maxRecDepth 100000 in
set_option maxHeartbeats 1000000 in
theorem rvalue_head (n : Nat) (s : List UInt8) (t a : Nat) (w : World) (ha : a < 16) (hl : s.length ≤ 1048576) (c : Int) (hh : headD (s.drop t) = .error c) :
    Calls Try.prog 26 #[.string ⟨s.toArray⟩, .int .i64 t, .int .i64 (a + 1 : Nat)] w (RValGives s t w n (.error c)) := by
  have hst := run_storeF
  have HH := rhead_all s t (w.alloc (.cells #[.int .i64 0, .int .u64 0, .slice none 0 0, .float .f64 0, .slice none 0 0] 27)) hl
  rw [hh] at HH
  have H := Lib.hid HH
  have hc0 := headD_err hh
  have hcb : (c == 0) = false := by rw [beq_eq_false_iff_ne]; exact hc0
  have HC0 := Lib.hid hc0
  clear HH hh hc0
  go_enter Try.func26, Try.ntmps26
  go_wp2_with fail
  refine H.out.mono ?_
  rintro e w1 ⟨rfl, hb⟩
  have HS := Lib.hid (RStart.of hb)
  obtain ⟨⟨c0, c1, c2, c3, c4⟩, z0, z1, z2, z3, z4⟩ := five_cells HS.out.blk
  clear hb
  go_wp2_with fail
  obtain ⟨r0, r1, r2, r3, r4⟩ := set5_cells c0 c1 c2 c3 c4 (.int .i64 0) (.int .u64 0) (.slice none 0 0) (.float .f64 0) (.slice none 0 0)
  unfold set5 at r0 r1 r2 r3 r4
  exact bodyPost_ret (v := .tuple #[.agg #[.int .i64 0, .int .u64 0, .slice none 0 0, .float .f64 0, .slice none 0 0], .int .i64 t, .int .i64 c]) (by simp [results, Try.results26, go_sem, r0, r1, r2, r3, r4]) rfl
    ⟨t, rfl, HC0.out, HS.out.fin _ _ _ _ _⟩
/-- Where the rest behind a head begins. -/
theorem head_at {s r : List UInt8} {t k m : Nat} (ht : t ≤ s.length) (hh : headD (s.drop t) = .ok (k, m, r)) : t + (headB k m).length + r.length = s.length ∧ s.drop (t + (headB k m).length) = r := by
  have h := (headD_of hh).1
  refine ⟨?_, ?_⟩
  · have e := congrArg List.length h
    rw [List.length_drop, List.length_append] at e
    omega
  · rw [← List.drop_drop, h, List.drop_left]
set_option maxRecDepth 100000 in
set_option maxHeartbeats 1000000 in
theorem rvalue_num (n : Nat) (s r : List UInt8) (t a m : Nat) (w : World) (ha : a < 16) (hl : s.length ≤ 1048576) (ht : t ≤ s.length) (hh : headD (s.drop t) = .ok (0, m, r)) :
    Calls Try.prog 26 #[.string ⟨s.toArray⟩, .int .i64 t, .int .i64 (a + 1 : Nat)] w (RValGives s t w (n + 1) (.ok (.mk 0 m [] 0 [], r))) := by
  have hst := run_storeF
  have HH := rhead_all s t (w.alloc (.cells #[.int .i64 0, .int .u64 0, .slice none 0 0, .float .f64 0, .slice none 0 0] 27)) hl
  have HAT := Lib.hid (head_at ht hh)
  rw [hh] at HH
  have H := Lib.hid HH
  have htt : t + (headB 0 m).length ≤ s.length := by have := HAT.out.1; omega
  clear HH hh
  go_enter Try.func26, Try.ntmps26
  go_wp2_with fail
  refine H.out.mono ?_
  rintro e w1 ⟨rfl, _, hm, hb1⟩
  generalize (headB 0 m).length = hb at *
  have HS := Lib.hid (RStart.of hb1)
  have HM := Lib.hid hm
  obtain ⟨⟨c0, c1, c2, c3, c4⟩, z0, z1, z2, z3, z4⟩ := five_cells HS.out.blk
  clear hb1 hm
  go_wp2_with fail
  obtain ⟨r0, r1, r2, r3, r4⟩ := set5_cells c0 c1 c2 c3 c4 (.int .i64 0) (.int .u64 m) (.slice none 0 0) (.float .f64 0) (.slice none 0 0)
  unfold set5 at r0 r1 r2 r3 r4
  have hx := RStart.reads (w := w) (w1 := w1) (n := n + 1) (x := .mk 0 m [] 0 []) (v0 := .int .i64 0) (v1 := .int .u64 m) (v2 := .slice none 0 0) (v3 := .float .f64 0) (v4 := .slice none 0 0) ⟨_, _, rfl, HM.out, by omega, by simp, by simp, Or.inl ⟨rfl, rfl⟩, Or.inl ⟨rfl, rfl⟩⟩
  exact bodyPost_ret (v := .tuple #[.agg #[.int .i64 0, .int .u64 m, .slice none 0 0, .float .f64 0, .slice none 0 0], .int .i64 ((t + hb : Nat) : Int), .int .i64 0]) (by simp [results, Try.results26, go_sem, r0, r1, r2, r3, r4]) rfl
    ⟨_, t + hb, rfl, by omega, htt, HAT.out.2, hx, HS.out.fin _ _ _ _ _⟩
set_option maxRecDepth 100000 in
set_option maxHeartbeats 1000000 in
theorem rvalue_short (n : Nat) (s r : List UInt8) (t a m : Nat) (w : World) (ha : a < 16) (hl : s.length ≤ 1048576) (ht : t ≤ s.length) (hh : headD (s.drop t) = .ok (1, m, r)) (hm : r.length < m) :
    Calls Try.prog 26 #[.string ⟨s.toArray⟩, .int .i64 t, .int .i64 (a + 1 : Nat)] w (RValGives s t w (n + 1) (.error 20)) := by
  have hst := run_storeF
  have HH := rhead_all s t (w.alloc (.cells #[.int .i64 0, .int .u64 0, .slice none 0 0, .float .f64 0, .slice none 0 0] 27)) hl
  have HAT := Lib.hid (head_at ht hh)
  rw [hh] at HH
  have H := Lib.hid HH
  have htt : t + (headB 1 m).length ≤ s.length := by have := HAT.out.1; omega
  have hlt : (s.length : Int) - ((t : Int) + (headB 1 m).length) < m := by have := HAT.out.1; omega
  clear HH hh hm
  go_enter Try.func26, Try.ntmps26
  go_wp2_with fail
  refine H.out.mono ?_
  rintro e w1 ⟨rfl, _, hm, hb1⟩
  generalize (headB 1 m).length = hb at *
  have HS := Lib.hid (RStart.of hb1)
  obtain ⟨⟨c0, c1, c2, c3, c4⟩, z0, z1, z2, z3, z4⟩ := five_cells HS.out.blk
  clear hb1 hm
  go_wp2_with fail
  obtain ⟨r0, r1, r2, r3, r4⟩ := set5_cells c0 c1 c2 c3 c4 (.int .i64 0) (.int .u64 0) (.slice none 0 0) (.float .f64 0) (.slice none 0 0)
  unfold set5 at r0 r1 r2 r3 r4
  exact bodyPost_ret (v := .tuple #[.agg #[.int .i64 0, .int .u64 0, .slice none 0 0, .float .f64 0, .slice none 0 0], .int .i64 ((t + hb : Nat) : Int), .int .i64 20]) (by simp [results, Try.results26, go_sem, r0, r1, r2, r3, r4]) rfl
    ⟨t + hb, rfl, by decide, HS.out.fin _ _ _ _ _⟩
set_option maxRecDepth 100000 in
set_option maxHeartbeats 1000000 in
theorem rvalue_bytes (n : Nat) (s r : List UInt8) (t a m : Nat) (w : World) (ha : a < 16) (hl : s.length ≤ 1048576) (ht : t ≤ s.length) (hh : headD (s.drop t) = .ok (1, m, r)) (hm : m ≤ r.length) :
    Calls Try.prog 26 #[.string ⟨s.toArray⟩, .int .i64 t, .int .i64 (a + 1 : Nat)] w (RValGives s t w (n + 1) (.ok (.mk 1 0 (r.take m) 0 [], r.drop m))) := by
  have hst := run_storeF
  have HH := rhead_all s t (w.alloc (.cells #[.int .i64 0, .int .u64 0, .slice none 0 0, .float .f64 0, .slice none 0 0] 27)) hl
  have HAT := Lib.hid (head_at ht hh)
  rw [hh] at HH
  have H := Lib.hid HH
  have htt : t + (headB 1 m).length + m ≤ s.length := by have := HAT.out.1; omega
  have HMR := Lib.hid hm
  clear HH hh hm
  go_enter Try.func26, Try.ntmps26
  go_wp2_with fail
  refine H.out.mono ?_
  rintro e w1 ⟨rfl, _, hm, hb1⟩
  generalize (headB 1 m).length = hb at *
  have HS := Lib.hid (RStart.of hb1)
  obtain ⟨⟨c0, c1, c2, c3, c4⟩, z0, z1, z2, z3, z4⟩ := five_cells HS.out.blk
  clear hb1 hm
  have htl : (r.take m).length = m := by rw [List.length_take]; have := HMR.out; omega
  obtain ⟨cap, w2, hcv, hbc, hbl, hs2⟩ := conv_new w1 (r.take m) (by omega)
  rw [htl] at hcv hbc
  have hex : (⟨s.toArray⟩ : ByteArray).extract (t + hb) (t + hb + m) = ⟨(r.take m).toArray⟩ := by
    rw [extract_list, HAT.out.2, show t + hb + m - (t + hb) = m by omega]
  have hcv2 : (convert 9 23 (.string ((⟨s.toArray⟩ : ByteArray).extract (t + hb) (t + hb + m)))).run Try.prog w1 = .ok (.slice (some ⟨w1.heap.size, 0, none⟩) m cap) w2 := by rw [hex]; exact hcv
  have HBC := Lib.hid hbc
  have HS2 := Lib.hid (HS.out.step hbl)
  have HTL := Lib.hid htl
  obtain ⟨⟨d0, d1, d2, d3, d4⟩, y0, y1, y2, y3, y4⟩ := five_cells HS2.out.blk
  have HSZ := Lib.hid hs2
  clear c0 c1 c2 c3 c4 z0 z1 z2 z3 z4 hcv hbc hbl htl hex hs2
  go_wp2_with fail
  obtain ⟨r0, r1, r2, r3, r4⟩ := set5_cells d0 d1 d2 d3 d4 (.int .i64 1) (.int .u64 0) (.slice (some ⟨w1.heap.size, 0, none⟩) m cap) (.float .f64 0) (.slice none 0 0)
  unfold set5 at r0 r1 r2 r3 r4
  have hx := RStart.reads (w := w) (w1 := w2) (n := n + 1) (x := .mk 1 0 (r.take m) 0 []) (v0 := .int .i64 1) (v1 := .int .u64 0) (v2 := .slice (some ⟨w1.heap.size, 0, none⟩) m cap) (v3 := .float .f64 0) (v4 := .slice none 0 0)
    ⟨_, _, rfl, by omega, by omega, by have := HTL.out; omega, by simp, HBC.out.kept (fun k hk => ⟨by have := HS.out.size; omega, rfl⟩), Or.inl ⟨rfl, rfl⟩⟩
  have e2 : ((t + hb + m : Nat) : Int) = (t : Int) + hb + m := by omega
  refine bodyPost_ret (v := .tuple #[.agg #[.int .i64 1, .int .u64 0, .slice (some ⟨w1.heap.size, 0, none⟩) m cap, .float .f64 0, .slice none 0 0], .int .i64 ((t + hb + m : Nat) : Int), .int .i64 0]) ?_ rfl
    ⟨_, t + hb + m, rfl, by omega, htt, by rw [← List.drop_drop, HAT.out.2], hx, HS2.out.fin _ _ _ _ _⟩
  rw [e2]
  simp [results, Try.results26, go_sem, r0, r1, r2, r3, r4]
set_option maxRecDepth 100000 in
set_option maxHeartbeats 1000000 in
theorem rvalue_real0 (n : Nat) (s r : List UInt8) (t a m : Nat) (w : World) (ha : a < 16) (hl : s.length ≤ 1048576) (ht : t ≤ s.length) (hh : headD (s.drop t) = .ok (2, m, r)) (h8 : r.length < 8) :
    Calls Try.prog 26 #[.string ⟨s.toArray⟩, .int .i64 t, .int .i64 (a + 1 : Nat)] w (RValGives s t w (n + 1) (.error 20)) := by
  have hst := run_storeF
  have HH := rhead_all s t (w.alloc (.cells #[.int .i64 0, .int .u64 0, .slice none 0 0, .float .f64 0, .slice none 0 0] 27)) hl
  have HAT := Lib.hid (head_at ht hh)
  rw [hh] at HH
  have H := Lib.hid HH
  have htt : t + (headB 2 m).length ≤ s.length := by have := HAT.out.1; omega
  have hlt : (s.length : Int) - ((t : Int) + (headB 2 m).length) < 8 := by have := HAT.out.1; omega
  clear HH hh h8
  go_enter Try.func26, Try.ntmps26
  go_wp2_with fail
  refine H.out.mono ?_
  rintro e w1 ⟨rfl, _, hm, hb1⟩
  generalize (headB 2 m).length = hb at *
  have HS := Lib.hid (RStart.of hb1)
  obtain ⟨⟨c0, c1, c2, c3, c4⟩, z0, z1, z2, z3, z4⟩ := five_cells HS.out.blk
  clear hb1 hm
  go_wp2_with fail
  obtain ⟨r0, r1, r2, r3, r4⟩ := set5_cells c0 c1 c2 c3 c4 (.int .i64 0) (.int .u64 0) (.slice none 0 0) (.float .f64 0) (.slice none 0 0)
  unfold set5 at r0 r1 r2 r3 r4
  exact bodyPost_ret (v := .tuple #[.agg #[.int .i64 0, .int .u64 0, .slice none 0 0, .float .f64 0, .slice none 0 0], .int .i64 ((t + hb : Nat) : Int), .int .i64 20]) (by simp [results, Try.results26, go_sem, r0, r1, r2, r3, r4]) rfl
    ⟨t + hb, rfl, by decide, HS.out.fin _ _ _ _ _⟩
theorem rest_at {s r : List UInt8} {i k : Nat} (h : s.drop i = r) (hk : k < r.length) : ∃ h2 : i + k < s.length, s[i + k] = r[k] := by
  subst h
  rw [List.length_drop] at hk
  exact ⟨by omega, by simp⟩
set_option maxRecDepth 100000 in
set_option maxHeartbeats 2000000 in
theorem rvalue_real1 (n : Nat) (s r : List UInt8) (t a m : Nat) (w : World) (ha : a < 16) (hl : s.length ≤ 1048576) (ht : t ≤ s.length) (hh : headD (s.drop t) = .ok (2, m, r)) (h8 : 8 ≤ r.length) :
    Calls Try.prog 26 #[.string ⟨s.toArray⟩, .int .i64 t, .int .i64 (a + 1 : Nat)] w (RValGives s t w (n + 1) (match floatD m r with
        | .ok (f, r') => .ok (.mk 2 0 [] f [], r')
        | .error c => .error c)) := by
  have hst := run_storeF
  have HH := rhead_all s t (w.alloc (.cells #[.int .i64 0, .int .u64 0, .slice none 0 0, .float .f64 0, .slice none 0 0] 27)) hl
  have HAT := Lib.hid (head_at ht hh)
  rw [hh] at HH
  have H := Lib.hid HH
  have htt : t + (headB 2 m).length + 8 ≤ s.length := by have := HAT.out.1; omega
  have HR8 := Lib.hid h8
  have HD : Hid (floatD m r = if m ≠ 0 ∨ canonB (beN (r.take 8)) ≠ beN (r.take 8) then .error 22 else .ok (beN (r.take 8), r.drop 8)) := Lib.hid (by unfold floatD; rw [if_neg (by omega)])
  generalize floatD m r = x at *
  clear HH hh h8
  go_enter Try.func26, Try.ntmps26
  go_wp2_with fail
  refine H.out.mono ?_
  rintro e w1 ⟨rfl, _, hm, hb1⟩
  generalize (headB 2 m).length = hb at *
  have HS := Lib.hid (RStart.of hb1)
  have HM := Lib.hid hm
  clear hb1 hm
  go_wp2_with fail
  go_loopw [13, 14] (fun b i wr => ∃ k : Nat, k ≤ 8 ∧ i = .int .i64 k ∧ b = .int .u64 (beN (r.take k)) ∧ wr = w1) (fun _ i _ => 8 - (intOf i).toNat)
  case atStart => exact ⟨0, by omega, rfl, rfl, rfl⟩
  case round =>
    obtain ⟨k, hk, rfl, rfl, rfl⟩ := hrel
    by_cases h8 : k < 8
    · obtain ⟨hik, hrk⟩ := rest_at (k := k) HAT.out.2 (by have := HR8.out; omega)
      have hkr : k < r.length := by have := HR8.out; omega
      have HB := Lib.hid (beN_snoc (r.take k) (r[k]))
      have HTK : Hid (r.take (k + 1) = r.take k ++ [r[k]]) := Lib.hid (List.take_succ_eq_append_getElem hkr)
      have hbl : beN (r.take k) < 72057594037927936 := by
        have := beN_lt 7 (r.take k) (by rw [List.length_take]; omega)
        simpa using this
      have hid := idx_eq s (t + hb + k) hik
      rw [hrk] at hid
      have hc256 := ((⟨s.toArray⟩ : ByteArray)[t + hb + k]'(idx_lt hik)).toNat_lt
      have HID := Lib.hid hid
      clear hid hrk
      generalize hbx : beN (r.take k) = bx at *
      have HBX := Lib.hid hbx
      clear hbx
      go_wp2_with fail
      go_roundw
      case rel => exact ⟨k + 1, by omega, by go_num, congrArg (Value.int .u64) (by rw [HTK.out, HB.out, HID.out]; push_cast; rfl), trivial⟩
      case measure => simp [intOf]; omega
    · have hk8 : k = 8 := by omega
      subst hk8
      have hbl : beN (r.take 8) < 18446744073709551616 := by
        have := beN_lt 8 (r.take 8) (by rw [List.length_take]; omega)
        simpa using this
      have HBL := Lib.hid hbl
      have e2 : ((t + hb + 8 : Nat) : Int) = (t : Int) + hb + 8 := by omega
      have HE2 := Lib.hid e2
      clear hbl e2
      obtain ⟨⟨c0, c1, c2, c3, c4⟩, z0, z1, z2, z3, z4⟩ := five_cells HS.out.blk
      generalize beN (r.take 8) = bx at *
      have h36 := fb36 bx
      have HCN := Lib.hid (rbits_any bx)
      by_cases hm0 : m = 0
      · subst hm0
        by_cases hcb : canonB bx = bx
        · have hx := HD.out
          rw [if_neg (by intro h; rcases h with h | h; exact h rfl; exact h hcb)] at hx
          rw [hcb] at HCN
          clear HD hcb
          subst hx
          go_wp2_with fail
          refine (HCN.out _).mono ?_
          rintro e w' ⟨rfl, rfl⟩
          go_wp2_with fail
          obtain ⟨r0, r1, r2, r3, r4⟩ := set5_cells c0 c1 c2 c3 c4 (.int .i64 2) (.int .u64 0) (.slice none 0 0) (.float .f64 bx) (.slice none 0 0)
          unfold set5 at r0 r1 r2 r3 r4
          have hx := RStart.reads (w := w) (w1 := wr) (n := n + 1) (x := .mk 2 0 [] bx []) (v0 := .int .i64 2) (v1 := .int .u64 0) (v2 := .slice none 0 0) (v3 := .float .f64 bx) (v4 := .slice none 0 0)
            ⟨_, _, rfl, by omega, HBL.out, by simp, by simp, Or.inl ⟨rfl, rfl⟩, Or.inl ⟨rfl, rfl⟩⟩
          refine bodyPost_ret (v := .tuple #[.agg #[.int .i64 2, .int .u64 0, .slice none 0 0, .float .f64 bx, .slice none 0 0], .int .i64 ((t + hb + 8 : Nat) : Int), .int .i64 0]) ?_ rfl
            ⟨_, t + hb + 8, rfl, by omega, htt, by rw [← List.drop_drop, HAT.out.2], hx, HS.out.fin _ _ _ _ _⟩
          rw [HE2.out]
          simp [results, Try.results26, go_sem, r0, r1, r2, r3, r4]
        · have hx := HD.out
          rw [if_pos (Or.inr hcb)] at hx
          have hne : ((canonB bx : Int) == (bx : Int)) = false := by rw [beq_eq_false_iff_ne]; omega
          generalize canonB bx = cb at *
          clear HD hcb
          subst hx
          go_wp2_with fail
          refine (HCN.out _).mono ?_
          rintro e w' ⟨rfl, rfl⟩
          go_wp2_with fail
          obtain ⟨r0, r1, r2, r3, r4⟩ := set5_cells c0 c1 c2 c3 c4 (.int .i64 0) (.int .u64 0) (.slice none 0 0) (.float .f64 0) (.slice none 0 0)
          unfold set5 at r0 r1 r2 r3 r4
          exact bodyPost_ret (v := .tuple #[.agg #[.int .i64 0, .int .u64 0, .slice none 0 0, .float .f64 0, .slice none 0 0], .int .i64 ((t + hb : Nat) : Int), .int .i64 22]) (by simp [results, Try.results26, go_sem, r0, r1, r2, r3, r4]) rfl
            ⟨t + hb, rfl, by decide, HS.out.fin _ _ _ _ _⟩
      · have hm1 : ((m : Int) == 0) = false := by rw [beq_eq_false_iff_ne]; omega
        have hx := HD.out
        rw [if_pos (Or.inl hm0)] at hx
        clear HD
        subst hx
        go_wp2_with fail
        obtain ⟨r0, r1, r2, r3, r4⟩ := set5_cells c0 c1 c2 c3 c4 (.int .i64 0) (.int .u64 0) (.slice none 0 0) (.float .f64 0) (.slice none 0 0)
        unfold set5 at r0 r1 r2 r3 r4
        exact bodyPost_ret (v := .tuple #[.agg #[.int .i64 0, .int .u64 0, .slice none 0 0, .float .f64 0, .slice none 0 0], .int .i64 ((t + hb : Nat) : Int), .int .i64 22]) (by simp [results, Try.results26, go_sem, r0, r1, r2, r3, r4]) rfl
          ⟨t + hb, rfl, by decide, HS.out.fin _ _ _ _ _⟩
theorem rvalue_real (n : Nat) (s r : List UInt8) (t a m : Nat) (w : World) (ha : a < 16) (hl : s.length ≤ 1048576) (ht : t ≤ s.length) (hh : headD (s.drop t) = .ok (2, m, r)) :
    Calls Try.prog 26 #[.string ⟨s.toArray⟩, .int .i64 t, .int .i64 (a + 1 : Nat)] w (RValGives s t w (n + 1) (match floatD m r with
        | .ok (f, r') => .ok (.mk 2 0 [] f [], r')
        | .error c => .error c)) := by
  by_cases h8 : r.length < 8
  · have e : floatD m r = .error 20 := by unfold floatD; rw [if_pos h8]
    rw [e]; exact rvalue_real0 n s r t a m w ha hl ht hh h8
  · exact rvalue_real1 n s r t a m w ha hl ht hh (by omega)
end Go.Proofs.Ytgppadnbfggkcaa
