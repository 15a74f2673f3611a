/- The law: what was made durable is there behind any crash (VfsSure). -/
import Derived.Test.YtjefcalndfcmdaaGreatDoorVhD
import Derived.Test.YtjefcalndfcmdaaGreatDoorVhE
namespace Go.Proofs.YtjefcalndfcmdaaGreatDoor
open Go.RowKit Go.Maps
attribute [local go_sem ↓] Go.wp_at_zero Go.wp_at_succ
/-- Two file systems at a loop's head: the program's (s) at bf, the reference's (r) in the box bw. -/
theorem ba_inj {a b : Nm} (h : (⟨a.toArray⟩ : ByteArray) = ⟨b.toArray⟩) : a = b := by injection h with h; simpa using h
structure Pq (w0 wB wr : World) (K : Nat → Prop) (bf bw : Nat) (s r : Fs) : Prop where
  ex : ∃ F vf vn vs va, FsG w0 F wr bf s ∧ (∀ q, K q → F q) ∧ F bw ∧ FsBox wr bw vf vn vs va (r.room : Int) (r.steps : Int) (lim r) ∧ FsR (fun q => F q ∧ q ≠ bw) wr vf vn vs va r
  keep : ∀ q, K q → wr.heap[q]? = wB.heap[q]?
  nk : ¬ K bw
  low : w0.heap.size ≤ bw
theorem Pq.shape {w0 wB wr : World} {K : Nat → Prop} {bf bw : Nat} {s r : Fs} (h : Pq w0 wB wr K bf bw s r) : ∃ F af an az aa cf cn cs ca, FsG w0 F wr bf s ∧ (∀ q, K q → F q) ∧ F bw ∧
    FsBox wr bw (.slice af r.files.length cf) (.slice an r.now.length cn) (.slice az r.sure.length cs) (.slice aa r.acts.length ca) (r.room : Int) (r.steps : Int) (lim r) ∧
    FsR (fun q => F q ∧ q ≠ bw) wr (.slice af r.files.length cf) (.slice an r.now.length cn) (.slice az r.sure.length cs) (.slice aa r.acts.length ca) r := by
  obtain ⟨F, vf, vn, vs, va, g, hK, hb, hX, hR⟩ := h.ex
  obtain ⟨af, cf, rfl⟩ := CellsC.shape hR.files
  obtain ⟨an, cn, rfl⟩ := CellsC.shape hR.now
  obtain ⟨az, cs, rfl⟩ := CellsC.shape hR.sure
  obtain ⟨aa, ca, rfl⟩ := CellsC.shape hR.acts
  exact ⟨F, af, an, az, aa, cf, cn, cs, ca, g, hK, hb, hX, hR⟩
theorem Pq.after {w0 wB wr wA w5 w6 : World} {K F F5 : Nat → Prop} {bf bw : Nat} {s r s' r' : Fs} {vf vn vs va : Value} (h : Pq w0 wB wr K bf bw s r) (hFK : ∀ q, K q → F q) (hbw : F bw) (gA : FsG w0 F wA bf s) (hA : ∀ q, F q → wA.heap[q]? = wr.heap[q]?)
    (inc : ∀ k, F k → F5 k) (g5 : FsG w0 F5 w5 bf s') (hR5 : FsR (fun k => F5 k ∧ ((F k ∧ k ≠ bw) ∨ wA.heap.size ≤ k)) w5 vf vn vs va r') (far : ∀ k, F k → w5.heap[k]? = wA.heap[k]?) {x0 x1 x2 x3 x4 x5 x6 : Value}
    (hX : w5.heap[bw]? = some (.cells #[x0, x1, x2, x3, x4, x5, x6] 33 (0, 0)))
    (hW : ((((((w5.setCell ⟨bw, 0, none⟩ vf).setCell ⟨bw, 1, none⟩ vn).setCell ⟨bw, 2, none⟩ vs).setCell ⟨bw, 3, none⟩ va).setCell ⟨bw, 4, none⟩ (.int .i64 (r'.room : Int))).setCell ⟨bw, 5, none⟩ (.int .i64 (r'.steps : Int))).setCell ⟨bw, 6, none⟩ (.int .i64 (lim r')) = w6) :
    Pq w0 wB w6 K bf bw s' r' := by
  obtain ⟨h1, _⟩ := fs_put hX vf vn vs va _ _ _ hW
  have h2 := setA_seven hW
  refine ⟨⟨F5, vf, vn, vs, va, g5.write (inc _ hbw) h.low h2.al, fun q hq => inc q (hFK q hq), inc _ hbw, h1, hR5.kept (fun q hq => ?_)⟩, fun q hq => ?_, h.nk, h.low⟩
  · have hl := gA.lt hbw
    have hne : q ≠ bw := by
      rcases hq.2 with h3 | h3
      · exact h3.2
      · omega
    exact ⟨⟨hq.1, hne⟩, h2.far hne⟩
  · have hne : q ≠ bw := fun e => h.nk (e ▸ hq)
    exact (h2.far hne).trans ((far q (hFK q hq)).trans ((hA q (hFK q hq)).trans (h.keep q hq)))
theorem Pq.beside {w0 wB wr w' : World} {K : Nat → Prop} {bf bw : Nat} {s r : Fs} (h : Pq w0 wB wr K bf bw s r) (hb : Below wr.heap.size wr w') : Pq w0 wB w' K bf bw s r := by
  obtain ⟨F, vf, vn, vs, va, g, hK, hbw, hX, hR⟩ := h.ex
  exact ⟨⟨F, vf, vn, vs, va, g.beside hb, hK, hbw, hX.kept (hb.block _ (g.lt hbw)), hR.kept (fun q hq => ⟨hq, hb.block q (g.lt hq.1)⟩)⟩, fun q hq => (hb.block q (g.lt (hK q hq))).trans (h.keep q hq), h.nk, h.low⟩
theorem Pq.ok {w0 wB wr : World} {K : Nat → Prop} {bf bw : Nat} {s r : Fs} (h : Pq w0 wB wr K bf bw s r) : FsOk s := by
  obtain ⟨F, _, _, _, _, g, _⟩ := h.ex
  exact g.ok
theorem Pq.below {w0 wB wr : World} {K : Nat → Prop} {bf bw : Nat} {s r : Fs} (h : Pq w0 wB wr K bf bw s r) : Below w0.heap.size w0 wr := by
  obtain ⟨F, _, _, _, _, g, _⟩ := h.ex
  exact g.below
/-- The reference's is new. -/
theorem Pq.begin {w w2 w3 : World} {bf n : Nat} {s : Fs} {K : Nat → Prop} (g2 : FsG w K w2 bf s) (b3 : Below w2.heap.size w2 w3) :
    Pq w (w3.alloc (.cells (fsV (.slice none 0 0) (.slice none 0 0) (.slice none 0 0) (.slice none 0 0) (n : Int) 0 (-1)) 33)) (w3.alloc (.cells (fsV (.slice none 0 0) (.slice none 0 0) (.slice none 0 0) (.slice none 0 0) (n : Int) 0 (-1)) 33)) K bf w3.heap.size s (newS n) := by
  have g3 := g2.more b3 (F' := K) (fun k hk => Or.inl hk)
  have hz3 := b3.size
  have h0 := new_five w3 (fsV (.slice none 0 0) (.slice none 0 0) (.slice none 0 0) (.slice none 0 0) (n : Int) 0 (-1)) 33
  have hz : (w3.alloc (.cells (fsV (.slice none 0 0) (.slice none 0 0) (.slice none 0 0) (.slice none 0 0) (n : Int) 0 (-1)) 33)).heap.size = w3.heap.size + 1 := by simp
  have hb := (Below.refl w3.heap.size w3).alloc (Nat.le_refl _) (.cells (fsV (.slice none 0 0) (.slice none 0 0) (.slice none 0 0) (.slice none 0 0) (n : Int) 0 (-1)) 33)
  generalize w3.alloc (.cells (fsV (.slice none 0 0) (.slice none 0 0) (.slice none 0 0) (.slice none 0 0) (n : Int) 0 (-1)) 33) = w4 at *
  have g4 := g3.more hb (F' := fun k => K k ∨ k = w3.heap.size) (fun k hk => hk.elim Or.inl (fun e => Or.inr ⟨by omega, by omega⟩))
  exact ⟨⟨_, _, _, _, _, g4, fun q hq => Or.inl hq, Or.inr rfl, ⟨h0⟩, ⟨CellsC.nil _ _ _ _ _, CellsC.nil _ _ _ _ _, CellsC.nil _ _ _ _ _, CellsC.nil _ _ _ _ _⟩⟩, fun _ _ => rfl, fun h => by have := g3.lt h; omega, g3.below.size⟩
set_option maxRecDepth 100000 in
set_option maxHeartbeats 16000000 in
theorem sure_law (vt v : Value) (t : Nm) (l : List OpL) (f0 f1 : Int) (w : World) (ht : BytesC (fun k => k < w.heap.size) w vt t) (htl : t.length ≤ 1048576) (hv : OpsC (fun k => k < w.heap.size) w v l) (hl : l.length ≤ 1048576) (hok : ∀ e ∈ l, OpOk e) (hE : PEnv w) :
    Calls Tryz.prog 6 #[vt, v, .agg #[.int .i64 f0, .int .i64 f1]] w (TrueV w) := by
  obtain ⟨sa, sc, rfl⟩ := RowsC.shape hv
  obtain ⟨ta, tn, tc, hvt⟩ := bytes_slice ht
  subst hvt
  have htn : tn = t.length := by
    rcases ht with ⟨e, e2⟩ | ⟨a, cap, e, _⟩
    · injection e with _ e _
      rw [e, e2]; rfl
    · injection e
  subst htn
  have HV := Lib.hid hv
  have HTX := Lib.hid ht
  have HOK := Lib.hid hok
  have HE := Lib.hid hE
  have NEW0 := Lib.hid (new_five w #[.int .i64 f0, .int .i64 f1] 50)
  have BW0 := Lib.hid ((Below.refl w.heap.size w).alloc (Nat.le_refl _) (.cells #[.int .i64 f0, .int .i64 f1] 50))
  have HZ0 : Hid ((w.alloc (.cells #[.int .i64 f0, .int .i64 f1] 50)).heap.size = w.heap.size + 1) := Lib.hid (by simp)
  clear hv hok hE ht
  go_enter Tryz.func6, Tryz.ntmps6
  go_upto_region 1 with fail
  generalize w.alloc (.cells #[.int .i64 f0, .int .i64 f1] 50) = w0 at *
  go_wp2_with fail
  refine (awake_any w0 (HE.out.on BW0.out)).mono ?_
  rintro e w1 ⟨rfl, b1⟩
  have B1 : Hid (Below w.heap.size w w1) := Lib.hid (BW0.out.trans (b1.mono BW0.out.size))
  have NEW1 := Lib.hid ((b1.block w.heap.size (by have := HZ0.out; omega)).trans NEW0.out)
  have Z1 : Hid (w.heap.size + 1 ≤ w1.heap.size) := Lib.hid (by have := HZ0.out; have := b1.size; omega)
  clear b1 NEW0 BW0 HZ0
  have HN := Lib.hid (g_new B1.out 1048576 (by omega))
  go_wp2_with fail
  refine HN.out.mono ?_
  rintro e w2 ⟨bf, rfl, g2, b2⟩
  have G2 : Hid (FsG w (fun k => k < w1.heap.size) w2 bf (newS 1048576)) := Lib.hid (g2.low.less2 (fun k hk => by by_cases h : w.heap.size ≤ k; exact Or.inl ⟨h, hk⟩; exact Or.inr (by omega)))
  have NEW2 := Lib.hid ((b2.block w.heap.size (by have := Z1.out; omega)).trans NEW1.out)
  clear g2 b2 HN NEW1
  by_cases hbig : 100000 < t.length
  · have y0 : decide ((t.length : Int) > 100000) = true := decide_eq_true (by omega)
    have HB := Lib.hid G2.out.below
    clear hbig
    go_wp2_with fail
    go_ret
    exact ⟨rfl, HB.out⟩
  have y0 : decide ((t.length : Int) > 100000) = false := decide_eq_false (by omega)
  have y1 : decide (100000 < t.length) = false := decide_eq_false hbig
  have htl2 : t.length ≤ 100000 := by omega
  clear hbig
  have HC1 : Hid (Calls Tryz.prog 18 #[.pointer (some ⟨bf, 0, none⟩), .string ⟨#[115, 117, 114, 101]⟩] w2 (GP w (fun k => k < w1.heap.size) w2 bf (.int .i64 0) (su1 1048576))) := Lib.hid (by
    have h := g_create G2.out (by decide) HE.out nSure (by decide)
    rw [sure_create] at h
    exact h)
  go_upto_region 6 with fail
  clear y0 y1
  go_wp2_with fail
  refine HC1.out.mono ?_
  rintro e w3 ⟨rfl, g3, hz3, hk3⟩
  have NEW3 := Lib.hid ((hk3 w.heap.size (by have := Z1.out; omega)).trans NEW2.out)
  have HC2 : Hid (Calls Tryz.prog 19 #[.pointer (some ⟨bf, 0, none⟩), .string ⟨#[115, 117, 114, 101]⟩, .slice ta t.length tc] w3 (GP w (fun k => k < w1.heap.size) w3 bf (.int .i64 0) (su2 1048576 t))) := Lib.hid (by
    have h := g_append g3 (by decide) nSure (by decide) (fun k => k < w.heap.size) (.slice ta t.length tc) t (HTX.out.kept (fun q hq => ⟨hq, g3.below.block q hq⟩)) (fun k hk => Or.inl hk) (by omega)
    rw [sure_append _ _ (by omega)] at h
    exact h)
  clear g3 hz3 hk3 HC1 NEW2 G2
  go_wp2_with fail
  refine HC2.out.mono ?_
  rintro e w4 ⟨rfl, g4, hz4, hk4⟩
  have NEW4 := Lib.hid ((hk4 w.heap.size (by have := Z1.out; omega)).trans NEW3.out)
  have HC3 : Hid (Calls Tryz.prog 20 #[.pointer (some ⟨bf, 0, none⟩), .string ⟨#[115, 117, 114, 101]⟩] w4 (GP w (fun k => k < w1.heap.size) w4 bf (.int .i64 0) (su3 1048576 t))) := Lib.hid (by
    have h := g_sync g4 (by show 2 ≤ 16777214; omega) nSure (by decide)
    rw [sure_sync] at h
    exact h)
  clear g4 hz4 hk4 HC2 NEW3
  go_wp2_with fail
  refine HC3.out.mono ?_
  rintro e w5 ⟨rfl, g5, hz5, hk5⟩
  have NEW5 := Lib.hid ((hk5 w.heap.size (by have := Z1.out; omega)).trans NEW4.out)
  have HC4 : Hid (Calls Tryz.prog 17 #[.pointer (some ⟨bf, 0, none⟩)] w5 (GP w (fun k => k < w1.heap.size) w5 bf (.int .i64 0) (su4 1048576 t))) := Lib.hid (by
    have h := g_flush g5 (by show 3 ≤ 16777214; omega)
    rw [sure_flush] at h
    exact h)
  clear g5 hz5 hk5 HC3 NEW4
  go_wp2_with fail
  refine HC4.out.mono ?_
  rintro e w6 ⟨rfl, g6, hz6, hk6⟩
  have NEW6 := Lib.hid ((hk6 w.heap.size (by have := Z1.out; omega)).trans NEW5.out)
  have G6 := Lib.hid g6
  clear g6 hz6 hk6 HC4 NEW5
  have HNR := Lib.hid (rnew_any 1048576 w6)
  unfold fsV at HNR
  go_wp2_with fail
  refine HNR.out.mono ?_
  rintro e w7 ⟨rfl, b7⟩
  have HP0 := Lib.hid (Pq.begin (n := 1048576) G6.out b7)
  have BC7 := Lib.hid b7
  clear HNR b7
  unfold fsV at HP0
  go_upto_region 9 with fail
  obtain ⟨w8, hw8⟩ : ∃ x, (w7.alloc (.cells #[.slice none 0 0, .slice none 0 0, .slice none 0 0, .slice none 0 0, .int .i64 1048576, .int .i64 0, .int .i64 (-1)] 33)) = x := ⟨_, rfl⟩
  have HP0' : Hid (Pq w w8 w8 (fun q => q < w1.heap.size) bf w7.heap.size (su4 1048576 t) (newS 1048576)) := Lib.hid (by rw [← hw8]; exact HP0.out)
  have NEW8 := Lib.hid (((BC7.out.alloc (Nat.le_trans (Nat.le_refl _) BC7.out.size) (.cells #[.slice none 0 0, .slice none 0 0, .slice none 0 0, .slice none 0 0, .int .i64 1048576, .int .i64 0, .int .i64 (-1)] 33)).block w.heap.size (G6.out.lt (k := w.heap.size) (by have := Z1.out; omega))).trans NEW6.out)
  rw [hw8] at NEW8 ⊢
  clear hw8 HP0 BC7 NEW6 G6
  obtain ⟨bw, hbw⟩ : ∃ x, w7.heap.size = x := ⟨_, rfl⟩
  rw [hbw] at HP0' ⊢
  clear hbw
  have HLOW : Hid (∀ q, q < w.heap.size → q < w1.heap.size) := Lib.hid (fun q hq => by have := Z1.out; omega)
  go_wp2_with fail
  go_loopw [56] (fun i wr => ∃ k : Nat, k ≤ l.length ∧ i = .int .i64 (k : Int) ∧ ∃ s r, Hid (Pq w w8 wr (fun q => q < w1.heap.size) bf bw s r) ∧ Hid ((s.steps ≤ k + 4 ∧ s.files.length ≤ s.steps) ∧ (r.steps ≤ k ∧ r.files.length ≤ r.steps) ∧ Bd r ∧ Inv s t 0)) (fun i _ => l.length - (intOf i).toNat)
  case atStart => exact ⟨0, Nat.zero_le _, rfl, su4 1048576 t, newS 1048576, HP0', Lib.hid ⟨⟨Nat.le_refl _, by show 1 ≤ 4; omega⟩, ⟨Nat.le_refl _, Nat.le_refl _⟩, ⟨newS_ok (by omega), by show 0 ≤ _; omega, Nat.le_refl _⟩, sure_begin _ _⟩⟩
  case round =>
    obtain ⟨k, hk, rfl, s, r, hP, hC⟩ := hrel
    have HBD : Hid (Bd s) := Lib.hid ⟨hP.out.ok, by have := hC.out.1.1; omega, hC.out.1.2⟩
    have HBR := Lib.hid hC.out.2.2.1
    by_cases hlt : k < l.length
    · obtain ⟨g1, o1, haddr, hSg, hat⟩ := OpsC.at HV.out (by omega)
      subst haddr
      obtain ⟨vd, HVD0, e0, e1, e2, e3, e4, e5⟩ := hat k _ (List.getElem?_eq_getElem (show k < l.length by omega))
      obtain ⟨va, vn, vc, rfl⟩ := bytes_slice HVD0
      have hoo : OpOk l[k] := HOK.out _ (List.getElem_mem _)
      obtain ⟨oo, hoe⟩ : ∃ q, l[k] = q := ⟨_, rfl⟩
      have HOE := Lib.hid hoe
      rw [hoe] at HVD0 e0 e1 e2 e4 e5 hoo
      have HOO := Lib.hid hoo
      clear hoe hat hoo
      have kc : ∀ (p : Nat) (u : Value), w.cell? ⟨g1, p, none⟩ = some u → wr.cell? ⟨g1, p, none⟩ = some u := fun p u hu => (hP.out.below.cell (p := ⟨g1, p, none⟩) hSg).trans hu
      have d0 := kc _ _ e0
      have d1 := kc _ _ e1
      have d2 := kc _ _ e2
      have d3 := kc _ _ e3
      have d4 := kc _ _ e4
      have d5 := kc _ _ e5
      have HVD := Lib.hid HVD0
      clear kc e0 e1 e2 e3 e4 e5 HVD0 hSg
      obtain ⟨F, af, an, az, aa, cf, cn, cs, ca, gF, hKF, hFb, hXb, hRb⟩ := hP.out.shape
      have HKF := Lib.hid hKF
      have HFB := Lib.hid hFb
      have HRB := Lib.hid hRb
      have hb1 := (Below.refl wr.heap.size wr).alloc (Nat.le_refl _) (.cells #[.int .i64 oo.kind, .string ⟨oo.name.toArray⟩, .string ⟨oo.dest.toArray⟩, .slice va vn vc, .int .i64 oo.n, .int .i64 oo.m] 37)
      have GA := Lib.hid (gF.beside hb1)
      have KA := Lib.hid (fun (q : Nat) (hq : F q) => hb1.block q (gF.lt hq))
      have XA := Lib.hid (hXb.kept (hb1.block _ (gF.lt hFb)))
      have SZ := Lib.hid (gF.lt hFb)
      have GF := Lib.hid gF
      have BXA := Lib.hid hb1
      have NEW := Lib.hid (new_five wr #[.int .i64 oo.kind, .string ⟨oo.name.toArray⟩, .string ⟨oo.dest.toArray⟩, .slice va vn vc, .int .i64 oo.n, .int .i64 oo.m] 37)
      clear hKF hFb hXb hRb hb1 gF
      go_upto_region 12 with fail
      obtain ⟨wA, hwA⟩ : ∃ x, wr.alloc (.cells #[.int .i64 oo.kind, .string ⟨oo.name.toArray⟩, .string ⟨oo.dest.toArray⟩, .slice va vn vc, .int .i64 oo.n, .int .i64 oo.m] 37) = x := ⟨_, rfl⟩
      rw [hwA] at GA KA XA NEW BXA ⊢
      have hzA : wA.heap.size = wr.heap.size + 1 := by rw [← hwA]; simp
      have HZA := Lib.hid hzA
      clear hwA d0 d1 d2 d3 d4 d5 hzA
      obtain ⟨q0, q1, q2, q3, q4, q5, q6⟩ := XA.out.cells
      have p0 : wA.cell? ⟨wr.heap.size, 0, none⟩ = some (.int .i64 oo.kind) := (cell_of_row _ _ _ _ _ _ NEW.out).trans rfl
      have p1 : wA.cell? ⟨wr.heap.size, 1, none⟩ = some (.string ⟨oo.name.toArray⟩) := (cell_of_row _ _ _ _ _ _ NEW.out).trans rfl
      have p2 : wA.cell? ⟨wr.heap.size, 2, none⟩ = some (.string ⟨oo.dest.toArray⟩) := (cell_of_row _ _ _ _ _ _ NEW.out).trans rfl
      have p3 : wA.cell? ⟨wr.heap.size, 3, none⟩ = some (.slice va vn vc) := (cell_of_row _ _ _ _ _ _ NEW.out).trans rfl
      have p4 : wA.cell? ⟨wr.heap.size, 4, none⟩ = some (.int .i64 oo.n) := (cell_of_row _ _ _ _ _ _ NEW.out).trans rfl
      have p5 : wA.cell? ⟨wr.heap.size, 5, none⟩ = some (.int .i64 oo.m) := (cell_of_row _ _ _ _ _ _ NEW.out).trans rfl
      by_cases n0 : oo.name = nSure
      · have y0 : (oo.name == [115, 117, 114, 101]) = true := by rw [n0]; decide +kernel
        have HP6 := Lib.hid (hP.out.beside BXA.out)
        go_wp2_with fail
        exact ⟨⟨k + 1, by omega, by go_num, s, r, HP6, Lib.hid ⟨⟨by have := hC.out.1.1; omega, hC.out.1.2⟩, ⟨by have := hC.out.2.1.1; omega, hC.out.2.1.2⟩, hC.out.2.2.1, hC.out.2.2.2⟩⟩, by simp [intOf]; omega⟩
      have y0 : (oo.name == [115, 117, 114, 101]) = false := beq_eq_false_iff_ne.2 n0
      by_cases n1 : oo.dest = nSure
      · have y1 : (oo.dest == [115, 117, 114, 101]) = true := by rw [n1]; decide +kernel
        have HP6 := Lib.hid (hP.out.beside BXA.out)
        go_wp2_with fail
        exact ⟨⟨k + 1, by omega, by go_num, s, r, HP6, Lib.hid ⟨⟨by have := hC.out.1.1; omega, hC.out.1.2⟩, ⟨by have := hC.out.2.1.1; omega, hC.out.2.1.2⟩, hC.out.2.2.1, hC.out.2.2.2⟩⟩, by simp [intOf]; omega⟩
      have y1 : (oo.dest == [115, 117, 114, 101]) = false := beq_eq_false_iff_ne.2 n1
      by_cases n2 : oo.name = nUns
      · have y2 : (oo.name == [117, 110, 115, 117, 114, 101]) = true := by rw [n2]; decide +kernel
        have HP6 := Lib.hid (hP.out.beside BXA.out)
        go_wp2_with fail
        exact ⟨⟨k + 1, by omega, by go_num, s, r, HP6, Lib.hid ⟨⟨by have := hC.out.1.1; omega, hC.out.1.2⟩, ⟨by have := hC.out.2.1.1; omega, hC.out.2.1.2⟩, hC.out.2.2.1, hC.out.2.2.2⟩⟩, by simp [intOf]; omega⟩
      have y2 : (oo.name == [117, 110, 115, 117, 114, 101]) = false := beq_eq_false_iff_ne.2 n2
      by_cases n3 : oo.dest = nUns
      · have y3 : (oo.dest == [117, 110, 115, 117, 114, 101]) = true := by rw [n3]; decide +kernel
        have HP6 := Lib.hid (hP.out.beside BXA.out)
        go_wp2_with fail
        exact ⟨⟨k + 1, by omega, by go_num, s, r, HP6, Lib.hid ⟨⟨by have := hC.out.1.1; omega, hC.out.1.2⟩, ⟨by have := hC.out.2.1.1; omega, hC.out.2.1.2⟩, hC.out.2.2.1, hC.out.2.2.2⟩⟩, by simp [intOf]; omega⟩
      have y3 : (oo.dest == [117, 110, 115, 117, 114, 101]) = false := beq_eq_false_iff_ne.2 n3
      have HST := Lib.hid (stq_any GA.out HBD.out HBR.out HE.out (fun q => F q ∧ q ≠ bw) (fun q hq => hq.1) (.agg (fsV (.slice af r.files.length cf) (.slice an r.now.length cn) (.slice az r.sure.length cs) (.slice aa r.acts.length ca) (r.room : Int) (r.steps : Int) (lim r))) ⟨_, _, _, _, rfl, HRB.out.kept (fun q hq => ⟨hq, KA.out q hq.1⟩)⟩ oo (.slice va vn vc) (HVD.out.kept (fun q hq => ⟨HKF.out q (HLOW.out q hq), (hP.out.below.trans (BXA.out.mono hP.out.below.size)).block q hq⟩)) HOO.out)
      unfold opRow fsV at HST
      go_wp2_with fail
      refine HST.out.mono ?_
      rintro e w5 ⟨v5, b5, F5, rfl, inc5, g5, hv5, hz5, far5⟩
      obtain ⟨s5, hs5⟩ : ∃ q, (opS r oo).1 = q := ⟨_, rfl⟩
      obtain ⟨p5', hp5⟩ : ∃ q, (opS s oo).1 = q := ⟨_, rfl⟩
      rw [hs5] at hv5
      rw [hp5] at g5
      have HS5 := Lib.hid hs5
      have HPS := Lib.hid hp5
      obtain ⟨af5, an5, az5, aa5, cf5, cn5, cs5, ca5, rfl, hR5⟩ := hv5.shape
      have INC5 := Lib.hid inc5
      have G5 := Lib.hid g5
      have HR5 := Lib.hid hR5
      have FAR5 := Lib.hid far5
      have X5 := Lib.hid (XA.out.kept (far5 _ HFB.out))
      have Z5 := Lib.hid hz5
      clear inc5 g5 hR5 far5 hz5 hs5 hp5 HST hv5 q0 q1 q2 q3 q4 q5 q6 p0 p1 p2 p3 p4 p5
      unfold fsV
      obtain ⟨q0, q1, q2, q3, q4, q5, q6⟩ := X5.out.cells
      have fq := X5.out.free
      go_upto_region 14 with fail
      obtain ⟨w6, hW⟩ : ∃ x, ((((((w5.setCell ⟨bw, 0, none⟩ (.slice af5 s5.files.length cf5)).setCell ⟨bw, 1, none⟩ (.slice an5 s5.now.length cn5)).setCell ⟨bw, 2, none⟩ (.slice az5 s5.sure.length cs5)).setCell ⟨bw, 3, none⟩ (.slice aa5 s5.acts.length ca5)).setCell ⟨bw, 4, none⟩ (.int .i64 (s5.room : Int))).setCell ⟨bw, 5, none⟩ (.int .i64 (s5.steps : Int))).setCell ⟨bw, 6, none⟩ (.int .i64 (lim s5)) = x := ⟨_, rfl⟩
      rw [hW]
      have hX5 := X5.out.blk
      unfold fsV at hX5
      have HP6 := Lib.hid (Pq.after hP.out HKF.out HFB.out GA.out KA.out INC5.out G5.out HR5.out FAR5.out hX5 hW)
      clear hW hX5 q0 q1 q2 q3 q4 q5 q6 fq
      go_wp2_with fail
      have hct := opS_count hC.out.1.2 oo
      rw [HPS.out] at hct
      have hcr := opS_count hC.out.2.1.2 oo
      rw [HS5.out] at hcr
      have hbd := opS_bd hC.out.2.2.1 HOO.out (by have := hC.out.2.1.1; omega)
      rw [HS5.out] at hbd
      have hinv := Inv.op hP.out.ok hC.out.2.2.2 oo n0 n1 n2 n3
      rw [HPS.out] at hinv
      exact ⟨⟨k + 1, by omega, by go_num, p5', s5, HP6, Lib.hid ⟨⟨by have := hC.out.1.1; omega, hct.2⟩, ⟨by have := hC.out.2.1.1; omega, hcr.2⟩, hbd, hinv⟩⟩, by simp [intOf]; omega⟩
    · obtain ⟨F, af, an, az, aa, cf, cn, cs, ca, gF, hKF, hFb, hXb, hRb⟩ := hP.out.shape
      obtain ⟨s2, hcr, hend⟩ := sure_end hP.out.ok hC.out.2.2.2
      have hst : s.steps ≤ 1048580 := by have := hC.out.1.1; omega
      have hs2 := (opS_count (s := { s with more := -1 }) hC.out.1.2 ⟨0, nUns, [], [], 0, 0⟩).1
      have hs3 : s2.steps ≤ s.steps + 1 := by
        have e : (opS { s with more := -1 } ⟨0, nUns, [], [], 0, 0⟩).1 = s2 := congrArg Prod.fst hcr
        rw [e] at hs2; exact hs2
      have NEWR := Lib.hid ((hP.out.keep _ (show w.heap.size < w1.heap.size by have := Z1.out; omega)).trans NEW8.out)
      have HKF := Lib.hid (hKF w.heap.size (show w.heap.size < w1.heap.size by have := Z1.out; omega))
      have HEND := Lib.hid (hend f1)
      have HSP := Lib.hid (g_stop gF (-1) (by omega))
      have HST := Lib.hid (And.intro hst hs3)
      clear hKF hFb hXb hRb hend hst hs2 hs3
      go_wp2_with fail
      refine HSP.out.mono ?_
      rintro e w5 ⟨rfl, g5, hz5, hk5⟩
      have NEW5 := Lib.hid ((hk5 _ HKF.out).trans NEWR.out)
      have HCR : Hid (Calls Tryz.prog 18 #[.pointer (some ⟨bf, 0, none⟩), .string ⟨#[117, 110, 115, 117, 114, 101]⟩] w5 (GP w F w5 bf (.int .i64 0) s2)) := Lib.hid (by
        have h := g_create g5 (by show s.steps ≤ _; have := HST.out.1; omega) HE.out nUns (by decide)
        rw [hcr] at h
        exact h)
      clear g5 hz5 hk5 HSP NEWR hcr
      go_wp2_with fail
      refine HCR.out.mono ?_
      rintro e w6 ⟨rfl, g6, hz6, hk6⟩
      have NEW6 := Lib.hid ((hk6 _ HKF.out).trans NEW5.out)
      have k1 : w6.cell? ⟨w.heap.size, 1, none⟩ = some (.int .i64 f1) := (cell_of_row _ _ _ _ _ _ NEW6.out).trans rfl
      have HCA := Lib.hid (g_crash g6 (by have := HST.out; omega) 0 f1)
      obtain ⟨s3, hs3⟩ : ∃ q, crashS s2 0 f1 = q := ⟨_, rfl⟩
      rw [hs3] at HCA HEND
      have HS3 : Hid (s3.steps = s2.steps) := Lib.hid (by rw [← hs3]; rfl)
      clear g6 hz6 hk6 HCR NEW5 hs3
      go_wp2_with fail
      refine HCA.out.mono ?_
      rintro e w7 ⟨rfl, g7, hz7, hk7⟩
      have NEW7 := Lib.hid ((hk7 _ HKF.out).trans NEW6.out)
      have G7 := Lib.hid g7
      have HRS : Hid (Calls Tryz.prog 21 #[.pointer (some ⟨bf, 0, none⟩), .string ⟨#[115, 117, 114, 101]⟩] w7 (ReadP w7 t 0)) := Lib.hid (by
        have h := g_read g7 nSure (by decide)
        rw [HEND.out.1] at h
        exact h)
      clear g7 hz7 hk7 HCA NEW6 k1
      go_wp2_with fail
      refine HRS.out.mono ?_
      rintro e w8 ⟨v8, rfl, o8, b8⟩
      have HO8 := Lib.hid (own_c o8)
      have G8 := Lib.hid (G7.out.beside b8)
      have NEW8' := Lib.hid ((b8.block _ (G7.out.lt HKF.out)).trans NEW7.out)
      have HRU : Hid (Calls Tryz.prog 21 #[.pointer (some ⟨bf, 0, none⟩), .string ⟨#[117, 110, 115, 117, 114, 101]⟩] w8 (ReadP w8 (readS s3 nUns).1 4)) := Lib.hid (by
        have h := g_read G8.out nUns (by decide)
        rw [HEND.out.2.1] at h
        exact h)
      clear o8 b8 HRS NEW7 G7
      obtain ⟨lu, hlu⟩ : ∃ q, (readS s3 nUns).1 = q := ⟨_, rfl⟩
      rw [hlu] at HRU
      clear hlu
      go_wp2_with fail
      refine HRU.out.mono ?_
      rintro e w9 ⟨v9, rfl, o9, b9⟩
      have G9 := Lib.hid (G8.out.beside b9)
      have NEW9 := Lib.hid ((b9.block _ (G8.out.lt HKF.out)).trans NEW8'.out)
      have hcv8 := bytes_str (HO8.out.kept (S' := fun _ => True) (w' := w9) (fun q hq => ⟨trivial, b9.block q hq.2⟩))
      have hcvt := bytes_str (HTX.out.kept (S' := fun _ => True) (w' := w9) (fun q hq => ⟨trivial, G9.out.below.block q hq⟩))
      have k0 : w9.cell? ⟨w.heap.size, 0, none⟩ = some (.int .i64 f0) := (cell_of_row _ _ _ _ _ _ NEW9.out).trans rfl
      have k1 : w9.cell? ⟨w.heap.size, 1, none⟩ = some (.int .i64 f1) := (cell_of_row _ _ _ _ _ _ NEW9.out).trans rfl
      have HCA := Lib.hid (g_crash G9.out (by have h1 := HS3.out; have h2 := HST.out; omega) f0 f1)
      have HE3 := Lib.hid (HEND.out.2.2 f0)
      obtain ⟨s4, hs4⟩ : ∃ q, crashS s3 f0 f1 = q := ⟨_, rfl⟩
      rw [hs4] at HCA HE3
      clear o9 b9 HRU NEW8' G8 HO8 HEND hs4 NEW9
      go_wp2_with fail
      refine HCA.out.mono ?_
      rintro e w10 ⟨rfl, g10, hz10, hk10⟩
      have G10 := Lib.hid g10
      have HRS : Hid (Calls Tryz.prog 21 #[.pointer (some ⟨bf, 0, none⟩), .string ⟨#[115, 117, 114, 101]⟩] w10 (ReadP w10 t 0)) := Lib.hid (by
        have h := g_read g10 nSure (by decide)
        rw [HE3.out] at h
        exact h)
      clear g10 hz10 hk10 HCA hcv8 hcvt k0 k1 HE3
      go_wp2_with fail
      refine HRS.out.mono ?_
      rintro e w11 ⟨v11, rfl, o11, b11⟩
      have G11 := Lib.hid (G10.out.beside b11)
      have hcv11 := bytes_str (own_c o11)
      have hcvt := bytes_str (HTX.out.kept (S' := fun _ => True) (w' := w11) (fun q hq => ⟨trivial, G11.out.below.block q hq⟩))
      have HBE := Lib.hid G11.out.below
      clear o11 b11 HRS G10
      go_wp2_with fail
      go_ret
      exact ⟨rfl, HBE.out⟩
end Go.Proofs.YtjefcalndfcmdaaGreatDoor
