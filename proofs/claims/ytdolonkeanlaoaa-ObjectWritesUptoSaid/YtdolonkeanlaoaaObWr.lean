/- The law ObjectWrites. -/
import Derived.Test.YtdolonkeanlaoaaObRf
import Derived.Test.YtdolonkeanlaoaaObOpen
namespace Go.Proofs.Ytdolonkeanlaoaa
open Go.RowKit
attribute [local simp high] id_size id_zero ent_size ent_zero com_size com_zero n32_ne n35_ne n36_ne

def codeE (r : Except Int (List UInt8)) : Int := match r with
  | .ok _ => 0
  | .error c => c
def outE (r : Except Int (List UInt8)) : List UInt8 := match r with
  | .ok o => o
  | .error _ => []
theorem enc_uni {w w' : World} {r : Except Int (List UInt8)} {e : Ending} (h : EncAnswers w r e w') : ∃ v, e = .returned (.tuple #[v, .int .i64 (codeE r)]) ∧ BytesC (fun k => k < w'.heap.size) w' v (outE r) ∧ Below w.heap.size w w' := by
  cases r with
  | error c => exact ⟨_, h.1, Or.inl ⟨rfl, rfl⟩, h.2⟩
  | ok o =>
    obtain ⟨v, he, ho, hb⟩ := h
    exact ⟨v, he, (own_c ho).kept (fun k hk => ⟨hk.2, rfl⟩), hb⟩
theorem renc_uni {w w' : World} {r : Except Int (List UInt8)} {e : Ending} (h : REncAnswers w r e w') : e = .returned (.tuple #[.string ⟨(outE r).toArray⟩, .int .i64 (codeE r)]) ∧ Below w.heap.size w w' := by
  cases r with
  | error c => exact h
  | ok o => exact h
set_option maxRecDepth 100000 in
set_option maxHeartbeats 8000000 in
theorem writes_try (ia : Option Addr) (n ic : Nat) (ids : List (List UInt8)) (sz : Int) (tv : Value) (l : List EntN) (pa : Option Addr) (pn pc : Nat) (x : ComN) (w : World)
    (h1 : IDsC (fun k => k < w.heap.size) w (.slice ia n ic) ids) (h2 : ids.length = n) (h3 : n ≤ 1048576) (h4 : -9223372036854775808 ≤ sz) (h5 : sz ≤ 9223372036854775807)
    (h6 : EntsC (fun k => k < w.heap.size) w tv l) (h7 : l.length ≤ 1048576) (h8 : ∀ e ∈ l, e.name.length ≤ 1048576 ∧ e.id.length = 32 ∧ e.stamp < 18446744073709551616)
    (h9 : IDsC (fun k => k < w.heap.size) w (.slice pa pn pc) x.parents) (h10 : x.parents.length = pn) (h11 : pn ≤ 1048576) (h12 : x.tree.length = 32) (h13 : x.stamp < 18446744073709551616) (h14 : x.author.length ≤ 1048576) (h15 : x.note.length ≤ 1048576) :
    Calls Try.prog 3 #[.agg #[.slice ia n ic, .int .i64 sz], tv, .agg (rowL n36 (comF x.tree pa pn pc x.stamp x.author x.note)).toArray] w fun e w' => e = .returned (.bool true) ∧ Below w.heap.size w w' := by
  have hst := run_storeF
  obtain ⟨ta, tc, rfl⟩ := RowsC.shape h6
  obtain ⟨w2, hw2⟩ : ∃ w2, w2 = (w.alloc (.cells #[.slice ia n ic, .int .i64 sz] 24)).alloc (.cells (rowL n36 (comF x.tree pa pn pc x.stamp x.author x.note)).toArray 30) := ⟨_, rfl⟩
  have hb2 : Below w.heap.size w w2 := by rw [hw2]; exact ((Below.refl _ w).alloc (Nat.le_refl _) _).alloc (by simp) _
  have hz2 : w2.heap.size = w.heap.size + 2 := by rw [hw2]; simp
  have hk2 : w2.heap[w.heap.size]? = some (.cells #[.slice ia n ic, .int .i64 sz] 24 (0, 0)) := by rw [hw2, Below.heap_alloc _ _ _ (by simp)]; exact new_five w _ _
  have hr2 : RF w2 (w.heap.size + 1) 30 n36 (comF x.tree pa pn pc x.stamp x.author x.note) := by
    rw [hw2]
    have := RF.new (w.alloc (.cells #[.slice ia n ic, .int .i64 sz] 24)) 30 n36 (comF x.tree pa pn pc x.stamp x.author x.note)
    rw [World.size_alloc] at this
    exact this
  have hlt : ∀ W, Below w2.heap.size w2 W → ∀ k, k < w.heap.size → k < W.heap.size := fun W hW k hk => by have := hW.size; omega
  have hkp : ∀ W, Below w2.heap.size w2 W → ∀ k, k < w.heap.size → W.heap[k]? = w.heap[k]? := fun W hW k hk => (hW.block k (by omega)).trans (hb2.block k hk)
  have HC0 : Hid (∀ W, Below w2.heap.size w2 W → W.cell? ⟨w.heap.size, 0, none⟩ = some (.slice ia n ic) ∧ W.cell? ⟨w.heap.size, 1, none⟩ = some (.int .i64 sz)) := Lib.hid (fun W hW => (two_new _ _ _ ((hW.block _ (by omega)).trans hk2)).1)
  have HPB : Hid (∀ W, Below w2.heap.size w2 W → Calls Try.prog 8 #[.agg #[.slice ia n ic, .int .i64 sz]] W fun e w' => ∃ v, e = .returned (.tuple #[v, .int .i64 (codeE (putBlobR ids sz))]) ∧ BytesC (fun k => k < w'.heap.size) w' v (outE (putBlobR ids sz)) ∧ Below W.heap.size W w') :=
    Lib.hid (fun W hW => (pblob_any (fun k => k < w.heap.size) ia n ic ids sz W (hlt W hW) h2 (h1.kept (fun k hk => ⟨hk, hkp W hW k hk⟩)) h3 h4 h5).mono fun _ _ h => enc_uni h)
  have HDB : Hid (∀ W, Below w2.heap.size w2 W → Calls Try.prog 9 #[.agg #[.slice ia n ic, .int .i64 sz]] W fun e w' => e = .returned (.tuple #[.string ⟨(outE (putBlobR ids sz)).toArray⟩, .int .i64 (codeE (putBlobR ids sz))]) ∧ Below W.heap.size W w') :=
    Lib.hid (fun W hW => (dpblob_any (fun k => k < w.heap.size) ia n ic ids sz W (hlt W hW) h2 (h1.kept (fun k hk => ⟨hk, hkp W hW k hk⟩)) h3 h4 h5).mono fun _ _ h => renc_uni h)
  have hev : ∀ W, Below w2.heap.size w2 W → EntsC (fun k => k < w.heap.size) W (.slice ta l.length tc) l := fun W hW => RowsC.kept ent_keeps h6 (fun k hk => ⟨hk, hkp W hW k hk⟩)
  have HPT : Hid (∀ W, Below w2.heap.size w2 W → Calls Try.prog 11 #[.slice ta l.length tc] W fun e w' => ∃ v, e = .returned (.tuple #[v, .int .i64 (codeE (putTreeR l))]) ∧ BytesC (fun k => k < w'.heap.size) w' v (outE (putTreeR l)) ∧ Below W.heap.size W w') :=
    Lib.hid (fun W hW => (ptree_any (fun k => k < w.heap.size) _ l W (hlt W hW) (hev W hW) h7 h8).mono fun _ _ h => enc_uni h)
  have HLT : Hid (∀ W, Below w2.heap.size w2 W → Calls Try.prog 13 #[.slice ta l.length tc] W fun e w' => ∃ v', e = .returned v' ∧ EntsC (NewS W w') w' v' l ∧ Below W.heap.size W w') :=
    Lib.hid (fun W hW => ltree_any (fun k => k < w.heap.size) _ l W (hlt W hW) (hev W hW) h7 (fun e he => (h8 e he).2.1))
  have HDT : Hid (∀ (W W' : World) (v' : Value), EntsC (NewS W W') W' v' l → Calls Try.prog 12 #[v'] W' fun e w' => e = .returned (.tuple #[.string ⟨(outE (putTreeR l)).toArray⟩, .int .i64 (codeE (putTreeR l))]) ∧ Below W'.heap.size W' w') :=
    Lib.hid (fun W W' v' hv => (dptree_any _ v' l W' (fun k hk => hk.2) hv h7 h8).mono fun _ _ h => renc_uni h)
  have hpv : ∀ W, Below w2.heap.size w2 W → IDsC (fun k => k < w.heap.size) W (.slice pa pn pc) x.parents := fun W hW => h9.kept (fun k hk => ⟨hk, hkp W hW k hk⟩)
  have HPC : Hid (∀ W, Below w2.heap.size w2 W → Calls Try.prog 14 #[.agg (rowL n36 (comF x.tree pa pn pc x.stamp x.author x.note)).toArray] W fun e w' => ∃ v, e = .returned (.tuple #[v, .int .i64 (codeE (putComR x))]) ∧ BytesC (fun k => k < w'.heap.size) w' v (outE (putComR x)) ∧ Below W.heap.size W w') :=
    Lib.hid (fun W hW => (pcom_any (fun k => k < w.heap.size) pa pn pc x W (hlt W hW) h10 (hpv W hW) h11 h12 h13 (by omega) (by omega)).mono fun _ _ h => enc_uni h)
  have HLC : Hid (∀ W, Calls Try.prog 16 #[.agg (rowL n36 (comF x.tree pa pn pc x.stamp x.author x.note)).toArray] W fun e w' => e = .returned (.agg (rowL n36 (comF x.tree pa pn pc x.stamp x.author x.note)).toArray) ∧ Below W.heap.size W w') :=
    Lib.hid (fun W => lcommit_any x.tree pa pn pc x.stamp x.author x.note W h12)
  have HDC : Hid (∀ W, Below w2.heap.size w2 W → Calls Try.prog 15 #[.agg (rowL n36 (comF x.tree pa pn pc x.stamp x.author x.note)).toArray] W fun e w' => e = .returned (.tuple #[.string ⟨(outE (putComR x)).toArray⟩, .int .i64 (codeE (putComR x))]) ∧ Below W.heap.size W w') :=
    Lib.hid (fun W hW => (dpcom_any (fun k => k < w.heap.size) pa pn pc x W (hlt W hW) h10 (hpv W hW) h11 h12 h13 (by omega) (by omega)).mono fun _ _ h => renc_uni h)
  have HRF : Hid (∀ W, Below w2.heap.size w2 W → RF W (w.heap.size + 1) 30 n36 (comF x.tree pa pn pc x.stamp x.author x.note)) := Lib.hid (fun W hW => hr2.kept (hW.block _ (by omega)))
  have HB2 := Lib.hid hb2
  have HW2 := Lib.hid hw2
  generalize comF x.tree pa pn pc x.stamp x.author x.note = G at *
  obtain ⟨tn, htn⟩ : ∃ tn, l.length = tn := ⟨_, rfl⟩
  rw [htn] at HPT HLT ⊢
  have hol := rowL_len n36 G
  clear h1 h2 h3 h4 h5 h6 h7 h8 h9 h10 h11 h12 h13 h14 h15 hb2 hz2 hk2 hr2 hlt hkp hev hpv htn hw2
  generalize codeE (putBlobR ids sz) = c1 at *
  generalize outE (putBlobR ids sz) = o1 at *
  generalize codeE (putTreeR l) = c2 at *
  generalize outE (putTreeR l) = o2 at *
  generalize codeE (putComR x) = c3 at *
  generalize outE (putComR x) = o3 at *
  go_enter Try.func3, Try.ntmps3
  go_upto_region 1 with fail
  rw [← HW2.out]
  go_wp2_with fail
  refine (aw_try w2).mono ?_
  rintro e w3 ⟨rfl, hb3⟩
  have HB3 := Lib.hid hb3
  obtain ⟨d0, d1⟩ := HC0.out w3 hb3
  clear hb3
  go_wp2_with fail
  refine (HPB.out w3 HB3.out).mono ?_
  rintro e w4 ⟨v1, rfl, hv1, hb4⟩
  have HB4 : Hid (Below w2.heap.size w2 w4) := Lib.hid (HB3.out.trans (hb4.mono HB3.out.size))
  have HV1 := Lib.hid hv1
  obtain ⟨a1, k1, rfl⟩ := hv1.shape
  obtain ⟨d0, d1⟩ := HC0.out w4 HB4.out
  clear hv1 hb4
  go_wp2_with fail
  refine (lblob_any ia n ic sz w4).mono ?_
  rintro e w5 ⟨rfl, hb5⟩
  have HB5 : Hid (Below w2.heap.size w2 w5) := Lib.hid (HB4.out.trans (hb5.mono HB4.out.size))
  have HV1 := Lib.hid (HV1.out.kept (S' := fun k => k < w5.heap.size) (w' := w5) (fun k hk => ⟨Nat.lt_of_lt_of_le hk hb5.size, hb5.block k hk⟩))
  clear hb5
  go_wp2_with fail
  refine (HDB.out w5 HB5.out).mono ?_
  rintro e w6 ⟨rfl, hb6⟩
  have HB6 : Hid (Below w2.heap.size w2 w6) := Lib.hid (HB5.out.trans (hb6.mono HB5.out.size))
  have HV1 := Lib.hid (HV1.out.kept (S' := fun k => k < w6.heap.size) (w' := w6) (fun k hk => ⟨Nat.lt_of_lt_of_le hk hb6.size, hb6.block k hk⟩))
  clear hb6
  go_wp2_with fail
  refine (HPT.out w6 HB6.out).mono ?_
  rintro e w7 ⟨v2, rfl, hv2, hb7⟩
  have HB7 : Hid (Below w2.heap.size w2 w7) := Lib.hid (HB6.out.trans (hb7.mono HB6.out.size))
  have HV2 := Lib.hid hv2
  obtain ⟨a2, k2, rfl⟩ := hv2.shape
  have HV1 := Lib.hid (HV1.out.kept (S' := fun k => k < w7.heap.size) (w' := w7) (fun k hk => ⟨Nat.lt_of_lt_of_le hk hb7.size, hb7.block k hk⟩))
  clear hv2 hb7
  go_wp2_with fail
  refine (HLT.out w7 HB7.out).mono ?_
  rintro e w8 ⟨v3, rfl, hv3, hb8⟩
  have HB8 : Hid (Below w2.heap.size w2 w8) := Lib.hid (HB7.out.trans (hb8.mono HB7.out.size))
  have HV1 := Lib.hid (HV1.out.kept (S' := fun k => k < w8.heap.size) (w' := w8) (fun k hk => ⟨Nat.lt_of_lt_of_le hk hb8.size, hb8.block k hk⟩))
  have HV2 := Lib.hid (HV2.out.kept (S' := fun k => k < w8.heap.size) (w' := w8) (fun k hk => ⟨Nat.lt_of_lt_of_le hk hb8.size, hb8.block k hk⟩))
  have HDT2 := Lib.hid (HDT.out _ _ _ hv3)
  obtain ⟨a3, k3, rfl⟩ := RowsC.shape hv3
  obtain ⟨tn2, htn2⟩ : ∃ tn, l.length = tn := ⟨_, rfl⟩
  rw [htn2] at HDT2 ⊢
  clear hv3 hb8 htn2
  go_wp2_with fail
  refine HDT2.out.mono ?_
  rintro e w9 ⟨rfl, hb9⟩
  have HB9 : Hid (Below w2.heap.size w2 w9) := Lib.hid (HB8.out.trans (hb9.mono HB8.out.size))
  have HV1 := Lib.hid (HV1.out.kept (S' := fun k => k < w9.heap.size) (w' := w9) (fun k hk => ⟨Nat.lt_of_lt_of_le hk hb9.size, hb9.block k hk⟩))
  have HV2 := Lib.hid (HV2.out.kept (S' := fun k => k < w9.heap.size) (w' := w9) (fun k hk => ⟨Nat.lt_of_lt_of_le hk hb9.size, hb9.block k hk⟩))
  have l9 := (HRF.out w9 HB9.out).cells
  clear hb9
  go_wp2_with fail
  refine (HPC.out w9 HB9.out).mono ?_
  rintro e w10 ⟨v4, rfl, hv4, hb10⟩
  have HB10 : Hid (Below w2.heap.size w2 w10) := Lib.hid (HB9.out.trans (hb10.mono HB9.out.size))
  have HV3 := Lib.hid hv4
  obtain ⟨a4, k4, rfl⟩ := hv4.shape
  have HV1 := Lib.hid (HV1.out.kept (S' := fun k => k < w10.heap.size) (w' := w10) (fun k hk => ⟨Nat.lt_of_lt_of_le hk hb10.size, hb10.block k hk⟩))
  have HV2 := Lib.hid (HV2.out.kept (S' := fun k => k < w10.heap.size) (w' := w10) (fun k hk => ⟨Nat.lt_of_lt_of_le hk hb10.size, hb10.block k hk⟩))
  have l10 := (HRF.out w10 HB10.out).cells
  clear hv4 hb10 l9
  go_wp2_with fail
  refine (HLC.out w10).mono ?_
  rintro e w11 ⟨rfl, hb11⟩
  have HB11 : Hid (Below w2.heap.size w2 w11) := Lib.hid (HB10.out.trans (hb11.mono HB10.out.size))
  have HV1 := Lib.hid (HV1.out.kept (S' := fun k => k < w11.heap.size) (w' := w11) (fun k hk => ⟨Nat.lt_of_lt_of_le hk hb11.size, hb11.block k hk⟩))
  have HV2 := Lib.hid (HV2.out.kept (S' := fun k => k < w11.heap.size) (w' := w11) (fun k hk => ⟨Nat.lt_of_lt_of_le hk hb11.size, hb11.block k hk⟩))
  have HV3 := Lib.hid (HV3.out.kept (S' := fun k => k < w11.heap.size) (w' := w11) (fun k hk => ⟨Nat.lt_of_lt_of_le hk hb11.size, hb11.block k hk⟩))
  clear hb11 l10
  go_wp2_with fail
  refine (HDC.out w11 HB11.out).mono ?_
  rintro e w12 ⟨rfl, hb12⟩
  have HB12 : Hid (Below w2.heap.size w2 w12) := Lib.hid (HB11.out.trans (hb12.mono HB11.out.size))
  have q1 := bytes_str (HV1.out.kept (S' := fun k => k < w12.heap.size) (w' := w12) (fun k hk => ⟨Nat.lt_of_lt_of_le hk hb12.size, hb12.block k hk⟩))
  have q2 := bytes_str (HV2.out.kept (S' := fun k => k < w12.heap.size) (w' := w12) (fun k hk => ⟨Nat.lt_of_lt_of_le hk hb12.size, hb12.block k hk⟩))
  have q3 := bytes_str (HV3.out.kept (S' := fun k => k < w12.heap.size) (w' := w12) (fun k hk => ⟨Nat.lt_of_lt_of_le hk hb12.size, hb12.block k hk⟩))
  clear hb12
  go_wp2_with fail
  go_ret
  exact ⟨rfl, HB2.out.trans (HB12.out.mono HB2.out.size)⟩
end Go.Proofs.Ytdolonkeanlaoaa
