/- The walk of Merge. -/
import Derived.Test.YtjlpdoppnhcjoaaDoorWeavO
import Derived.Test.YtjlpdoppnhcjoaaDoorWeavF
namespace Go.Proofs.YtjlpdoppnhcjoaaDoor
open Go.RowKit
attribute [local go_sem ↓] Go.wp_at_zero Go.wp_at_succ

theorem put_any (F G : Nat → Prop) (B : Nat) (v u1 u2 u3 : Value) (ps : List (PartN (List UInt8))) (p : PartN (List UInt8)) (w : World) (hp : PartsO F w B v ps) (hu : PartO G w B u1 u2 u3 p.base p.ours p.theirs) (hFG : ∀ k, F k → ¬ G k) (hG : ∀ k, G k → B ≤ k ∧ k < w.heap.size) (hB : B ≤ w.heap.size)
    (hpl : ps.length ≤ 4194304) (hl : p.base.length ≤ 4194304 ∧ p.ours.length ≤ 4194304 ∧ p.theirs.length ≤ 4194304) (hq : ∀ q ∈ ps, q.base.length ≤ 4194304 ∧ q.ours.length ≤ 4194304 ∧ q.theirs.length ≤ 4194304) :
    Calls Tryd.prog 68 #[v, .agg #[.int .i64 p.kind, u1, u2, u3]] w (PutP F G w B (putN ps p)) := by
  rcases putN_cases ps p with ⟨h, e⟩ | ⟨q, h1, h2, h3, h4, e⟩ | ⟨h1, h2, e⟩
  · rw [e]; exact put_none F G B v u1 u2 u3 ps p w hp hu h
  · rw [e]
    obtain ⟨x1, x2, x3⟩ := hq q (by rw [h2]; simp)
    have hd : ps.dropLast.length ≤ 4194304 := by simp; omega
    rw [h2] at hp
    exact put_join F G B v u1 u2 u3 ps.dropLast q p w hp hu hFG hG hB hd hl.1 hl.2.1 hl.2.2 x1 x2 x3 h1 h3 h4
  · rw [e]; exact put_push F G B v u1 u2 u3 ps p w hp hu hFG hG hB hpl h1 h2
/-- Three numbers in a block. -/
def Gone3 (w : World) (gb i j l : Nat) : Prop := w.cell? ⟨gb, 0, none⟩ = some (.int .i64 (i : Int)) ∧ w.cell? ⟨gb, 1, none⟩ = some (.int .i64 (j : Int)) ∧ w.cell? ⟨gb, 2, none⟩ = some (.int .i64 (l : Int)) ∧ ∀ q, w.frozen? ⟨gb, q, none⟩ = false
theorem Gone3.kept {w w' : World} {gb i j l : Nat} (h : Gone3 w gb i j l) (hk : w'.heap[gb]? = w.heap[gb]?) : Gone3 w' gb i j l :=
  ⟨(World.cell?_of_block (w := w) (a := ⟨gb, 0, none⟩) hk).trans h.1, (World.cell?_of_block (w := w) (a := ⟨gb, 1, none⟩) hk).trans h.2.1, (World.cell?_of_block (w := w) (a := ⟨gb, 2, none⟩) hk).trans h.2.2.1, fun q => (World.frozen?_of_block (w := w) (a := ⟨gb, q, none⟩) hk).trans (h.2.2.2 q)⟩
def set3 (w : World) (b : Nat) (v0 v1 v2 : Value) : World := ((w.setCell ⟨b, 0, none⟩ v0).setCell ⟨b, 1, none⟩ v1).setCell ⟨b, 2, none⟩ v2
theorem set3_gone {w : World} {b i j l : Nat} (h : Gone3 w b i j l) (i' j' l' : Nat) : Gone3 (set3 w b (.int .i64 (i' : Int)) (.int .i64 (j' : Int)) (.int .i64 (l' : Int))) b i' j' l' := by
  obtain ⟨h0, h1, h2, h3⟩ := h
  unfold set3
  refine ⟨?_, ?_, ?_, fun q => by simp [h3]⟩ <;> simp [World.cell?_setCell_other, World.cell?_setCell_same', h0, h1, h2]
theorem set3_spares (w : World) (b : Nat) (v0 v1 v2 : Value) : Spares (fun q => q = b) w (set3 w b v0 v1 v2) :=
  ((Spares.of_set (fun q => q = b) w b 0 v0 rfl).trans (Spares.of_set (fun q => q = b) _ b 1 v1 rfl) (fun _ _ e => e)).trans (Spares.of_set (fun q => q = b) _ b 2 v2 rfl) (fun _ _ e => e)
/-- What Merge's loop holds: what is left, what is gone, the parts. -/
structure MSt (w wl : World) (rb gb : Nat) (W : World) (a b c : List (List UInt8)) (i j l : Nat) (F : Nat → Prop) (v : Value) (ps : List (PartN (List UInt8))) : Prop where
  rest : RestAt (fun k => k < w.heap.size) W rb a b c
  gone : Gone3 W gb i j l
  parts : PartsO F W wl.heap.size v ps
  sp : Spares (fun k => k = rb ∨ k = gb) wl W
  hw : w.heap.size ≤ rb
  hrg : rb < gb
  hgl : gb < wl.heap.size
theorem MSt.on {w wl : World} {rb gb : Nat} {W W' : World} {a b c : List (List UInt8)} {i j l : Nat} {F : Nat → Prop} {v : Value} {ps : List (PartN (List UInt8))} (h : MSt w wl rb gb W a b c i j l F v ps) (hs : Spares (fun _ => False) W W') : MSt w wl rb gb W' a b c i j l F v ps := by
  have h1 := h.hw
  have h2 := h.hrg
  have h3 := h.hgl
  have h4 := h.sp.size
  have keep : ∀ k, k < W.heap.size → W'.heap[k]? = W.heap[k]? := fun k hk => hs.block k hk id
  exact ⟨h.rest.kept (keep rb (by omega)) (fun k hk => keep k (by omega)), h.gone.kept (keep gb (by omega)), h.parts.kept hs.size (fun k hk => keep k (h.parts.1 k hk).2), h.sp.trans hs (fun _ _ e => e.elim), h1, h2, h3⟩
/-- The places that are gone are others. -/
theorem MSt.set {w wl : World} {rb gb : Nat} {W : World} {a b c : List (List UInt8)} {i j l : Nat} {F : Nat → Prop} {v : Value} {ps : List (PartN (List UInt8))} (h : MSt w wl rb gb W a b c i j l F v ps) (i' j' l' : Nat) : MSt w wl rb gb (set3 W gb (.int .i64 (i' : Int)) (.int .i64 (j' : Int)) (.int .i64 (l' : Int))) a b c i' j' l' F v ps := by
  have h1 := h.hw
  have h2 := h.hrg
  have h3 := h.hgl
  have h4 := h.sp.size
  have hs := set3_spares W gb (.int .i64 (i' : Int)) (.int .i64 (j' : Int)) (.int .i64 (l' : Int))
  refine ⟨h.rest.kept (hs.block rb (by omega) (by omega)) (fun k hk => hs.block k (by omega) (by omega)), set3_gone h.gone i' j' l', h.parts.kept hs.size (fun k hk => ?_), h.sp.trans hs (fun _ _ e => Or.inr e), h1, h2, h3⟩
  have := h.parts.1 k hk
  exact hs.block k this.2 (by omega)
theorem MSt.part {w wl : World} {rb gb : Nat} {W : World} {a b c : List (List UInt8)} {i j l : Nat} {F : Nat → Prop} {v : Value} {ps : List (PartN (List UInt8))} (h : MSt w wl rb gb W a b c i j l F v ps) (x y z : Nat) (hx : x ≤ a.length) (hy : y ≤ b.length) (hz : z ≤ c.length) (hl : a.length ≤ 4194304 ∧ b.length ≤ 4194304 ∧ c.length ≤ 4194304) :
    Calls Tryd.prog 69 #[.pointer (some ⟨rb, 0, none⟩), .int .i64 (x : Int), .int .i64 (y : Int), .int .i64 (z : Int)] W fun e W' => ∃ u1 u2 u3, e = .returned (.agg #[.int .i64 (kindN (a.take x) (b.take y) (c.take z)), u1, u2, u3]) ∧
      MSt w wl rb gb W' (a.drop x) (b.drop y) (c.drop z) i j l F v ps ∧ PartO (fun q => W.heap.size ≤ q ∧ q < W'.heap.size) W' wl.heap.size u1 u2 u3 (a.take x) (b.take y) (c.take z) ∧ Spares (fun k => k = rb) W W' := by
  have h1 := h.hw
  have h2 := h.hrg
  have h3 := h.hgl
  have h4 := h.sp.size
  refine (part_any (fun k => k < w.heap.size) rb a b c x y z W (fun q hq => by omega) (fun q hq => by omega) (by omega) h.rest hx hy hz hl.1 hl.2.1 hl.2.2).mono ?_
  rintro e W' ⟨u1, u2, u3, rfl, hp, hr, hs⟩
  refine ⟨u1, u2, u3, rfl, ⟨hr, h.gone.kept (hs.block gb (by omega) (by omega)), h.parts.kept hs.size (fun k hk => ?_), h.sp.trans hs (fun _ _ e => Or.inl e), h1, h2, h3⟩, hp.mono h4 hp.g1 hp.g2 hp.g3, hs⟩
  have := h.parts.1 k hk
  exact hs.block k this.2 (by omega)
theorem MSt.put {w wl : World} {rb gb : Nat} {W : World} {a b c : List (List UInt8)} {i j l : Nat} {F G : Nat → Prop} {v : Value} {ps : List (PartN (List UInt8))} (h : MSt w wl rb gb W a b c i j l F v ps) (p : PartN (List UInt8)) (u1 u2 u3 : Value) (hu : PartO G W wl.heap.size u1 u2 u3 p.base p.ours p.theirs) (hFG : ∀ k, F k → ¬ G k) (hG : ∀ k, G k → wl.heap.size ≤ k ∧ k < W.heap.size)
    (hpl : ps.length ≤ 4194304) (hl : p.base.length ≤ 4194304 ∧ p.ours.length ≤ 4194304 ∧ p.theirs.length ≤ 4194304) (hq : ∀ q ∈ ps, q.base.length ≤ 4194304 ∧ q.ours.length ≤ 4194304 ∧ q.theirs.length ≤ 4194304) :
    Calls Tryd.prog 68 #[v, .agg #[.int .i64 p.kind, u1, u2, u3]] W fun e W' => ∃ v' F', e = .returned v' ∧ MSt w wl rb gb W' a b c i j l F' v' (putN ps p) ∧ (∀ k, F' k → F k ∨ G k ∨ (W.heap.size ≤ k ∧ k < W'.heap.size)) ∧ Spares F W W' := by
  have h1 := h.hw
  have h2 := h.hrg
  have h3 := h.hgl
  have h4 := h.sp.size
  refine (put_any F G wl.heap.size v u1 u2 u3 ps p W h.parts hu hFG hG h4 hpl hl hq).mono ?_
  rintro e W' ⟨v', F', rfl, hp, hf, hs⟩
  have nF : ∀ k, k < wl.heap.size → ¬ F k := fun k hk e => by have := h.parts.1 k e; omega
  exact ⟨v', F', rfl, ⟨h.rest.kept (hs.block rb (by omega) (nF rb (by omega))) (fun k hk => hs.block k (by omega) (nF k (by omega))), h.gone.kept (hs.block gb (by omega) (nF gb h3)), hp, h.sp.trans hs (fun j hj e => absurd e (nF j hj)), h1, h2, h3⟩, hf, hs⟩
theorem fastOk_len {a b c : List (List UInt8)} : ∀ {F : List (Nat × Nat × Nat)} {i j k : Nat}, i ≤ a.length → FastOk a b c i j k F → F.length + i ≤ a.length
  | [], _, _, _, hi, _ => by simpa using hi
  | f :: r, i, _, _, _, ⟨h1, _, _, h4, _, _, _, _, h9⟩ => by
    have := fastOk_len (F := r) (i := f.1 + 1) (by omega) h9
    simp only [List.length_cons]; omega
theorem flat_mem {α β : Type} (f : α → List β) : ∀ (l : List α), ∀ x ∈ l, (f x).length ≤ (l.flatMap f).length
  | [], _, h => by cases h
  | y :: r, x, h => by
    rcases List.mem_cons.1 h with rfl | h
    · simp
    · have := flat_mem f r x h
      rw [List.flatMap_cons, List.length_append]; omega
/-- While parts are put, none is longer than the lists. -/
theorem put_bound {a b c : List (List UInt8)} {L ps : List (PartN (List UInt8))} (h : L.foldl putN ps = mergeN a b c) : ∀ q ∈ ps, q.base.length ≤ a.length ∧ q.ours.length ≤ b.length ∧ q.theirs.length ≤ c.length := by
  intro q hq
  obtain ⟨m1, m2, m3⟩ := merge_flat a b c
  have e1 := puts_flat PartN.base (fun p h => h.1) (fun _ _ => rfl) L ps
  have e2 := puts_flat PartN.ours (fun p h => h.2.1) (fun _ _ => rfl) L ps
  have e3 := puts_flat PartN.theirs (fun p h => h.2.2) (fun _ _ => rfl) L ps
  rw [h, m1] at e1
  rw [h, m2] at e2
  rw [h, m3] at e3
  have k1 := flat_mem PartN.base ps q hq
  have k2 := flat_mem PartN.ours ps q hq
  have k3 := flat_mem PartN.theirs ps q hq
  rw [e1, e2, e3]
  simp only [List.length_append]
  omega
theorem putN_len {α : Type} (l : List (PartN α)) (p : PartN α) : (putN l p).length ≤ l.length + 1 := by
  rcases putN_cases l p with ⟨_, e⟩ | ⟨q, _, h2, _, _, e⟩ | ⟨_, _, e⟩
  · rw [e]; omega
  · rw [e]
    have := congrArg List.length h2
    simp at this ⊢
    try omega
  · rw [e]; simp
/-- What Merge leaves. -/
def MergeP (w : World) (M : List (PartN (List UInt8))) (e : Ending) (w' : World) : Prop := ∃ v, e = .returned (.tuple #[v, .int .i64 0]) ∧ PartsC (fun k => w.heap.size ≤ k ∧ k < w'.heap.size) w' v M ∧ Below w.heap.size w w'
set_option maxRecDepth 100000 in
set_option maxHeartbeats 8000000 in
theorem merge_any (S T R : Nat → Prop) (va vb vc : Value) (a b c : List (List UInt8)) (w : World) (hS : ∀ k, S k → k < w.heap.size) (hT : ∀ k, T k → k < w.heap.size) (hR : ∀ k, R k → k < w.heap.size) (ha : StrsC S w va a) (hb : StrsC T w vb b) (hc : StrsC R w vc c)
    (hal : a.length ≤ 1048576) (hbl : b.length ≤ 1048576) (hcl : c.length ≤ 1048576) (hax : ∀ x ∈ a, x.length ≤ 4194304) (hbx : ∀ x ∈ b, x.length ≤ 4194304) (hcx : ∀ x ∈ c, x.length ≤ 4194304) (hm1 : a.length * b.length ≤ 1048576) (hm2 : a.length * c.length ≤ 1048576) :
    Calls Tryd.prog 55 #[va, vb, vc] w (MergeP w (mergeN a b c)) := by
  have HP1 := Lib.hid (pairs_any S T va vb a b w hS hT ha hb (by omega) (by omega) hax hbx hm1)
  have HP2 := Lib.hid (fun (W : World) (h : Below w.heap.size w W) => pairs_any S R va vc a c W (fun k hk => Nat.lt_of_lt_of_le (hS k hk) h.size) (fun k hk => Nat.lt_of_lt_of_le (hR k hk) h.size) (ha.kept (fun k hk => ⟨hk, h.block k (hS k hk)⟩)) (hc.kept (fun k hk => ⟨hk, h.block k (hR k hk)⟩)) (by omega) (by omega) hax hcx hm2)
  have HA := Lib.hid (fun (W : World) (h : Below w.heap.size w W) => ha.kept (S' := fun k => k < w.heap.size) (w' := W) (fun k hk => ⟨hS k hk, h.block k (hS k hk)⟩))
  have HB := Lib.hid (fun (W : World) (h : Below w.heap.size w W) => hb.kept (S' := fun k => k < w.heap.size) (w' := W) (fun k hk => ⟨hT k hk, h.block k (hT k hk)⟩))
  have HC := Lib.hid (fun (W : World) (h : Below w.heap.size w W) => hc.kept (S' := fun k => k < w.heap.size) (w' := W) (fun k hk => ⟨hR k hk, h.block k (hR k hk)⟩))
  obtain ⟨aa, ac, rfl⟩ := ha.shape
  obtain ⟨ba, bc, rfl⟩ := hb.shape
  obtain ⟨ca, cc, rfl⟩ := hc.shape
  have HFO := Lib.hid (fast_ok a b c _ _ 0 0 0 (pairs_ok a b) (pairs_ok a c))
  obtain ⟨M, hM⟩ : ∃ M, mergeN a b c = M := ⟨_, rfl⟩
  have HMM := Lib.hid hM
  have HM : Hid ((segsN a b c 0 0 0 (fastN (pairsN a 0 b 0) (pairsN a 0 c 0))).foldl putN [] = M) := Lib.hid hM
  rw [hM]
  have hp1 : (pairsN a 0 b 0).length ≤ 4194304 := by rw [pairsN_len]; have := (lcs_len a b).1; omega
  have hp2 : (pairsN a 0 c 0).length ≤ 4194304 := by rw [pairsN_len]; have := (lcs_len a c).1; omega
  have HFL := Lib.hid (fastOk_len (Nat.zero_le _) HFO.out)
  obtain ⟨P1, hP1⟩ : ∃ P, pairsN a 0 b 0 = P := ⟨_, rfl⟩
  obtain ⟨P2, hP2⟩ : ∃ P, pairsN a 0 c 0 = P := ⟨_, rfl⟩
  rw [hP1, hP2] at HFO HM HFL
  rw [hP1] at HP1 hp1
  rw [hP2] at HP2 hp2
  clear hS hT hR ha hb hc hax hbx hcx hm1 hm2 hM hP1 hP2
  go_enter Tryd.func55, Tryd.ntmps55
  go_wp2_with fail
  refine HP1.out.mono ?_
  rintro e w1 ⟨v1, rfl, ho1, hb1⟩
  have B1 := Lib.hid hb1
  have O1 := Lib.hid (ownP_c ho1)
  obtain ⟨pa, pc, rfl⟩ := ownP_slice ho1
  clear ho1 hb1 HP1
  go_wp2_with fail
  refine (HP2.out w1 B1.out).mono ?_
  rintro e w2 ⟨v2, rfl, ho2, hb2⟩
  have hs1 := B1.out.size
  have B2 := Lib.hid (B1.out.trans (hb2.mono hs1))
  have O1b := Lib.hid (O1.out.kept (S' := fun k => k < w2.heap.size) (w' := w2) (fun k hk => ⟨Nat.lt_of_lt_of_le hk.2 hb2.size, hb2.block k hk.2⟩))
  have O2 := Lib.hid ((ownP_c ho2).kept (S' := fun k => k < w2.heap.size) (w' := w2) (fun k hk => ⟨hk.2, rfl⟩))
  obtain ⟨qa, qc, rfl⟩ := ownP_slice ho2
  have hs2 := B2.out.size
  clear ho2 hb2 HP2 O1 B1
  have HX2 := Lib.hid (new_five w2 #[.slice aa a.length ac, .slice ba b.length bc, .slice ca c.length cc] 128)
  have HX3 := Lib.hid (new_five (w2.alloc (.cells #[.slice aa a.length ac, .slice ba b.length bc, .slice ca c.length cc] 128)) #[.int .i64 0, .int .i64 0, .int .i64 0] 129)
  have e2 : (w2.alloc (.cells #[.slice aa a.length ac, .slice ba b.length bc, .slice ca c.length cc] 128)).heap.size = w2.heap.size + 1 := by simp
  have BG : Hid (Below w.heap.size w ((w2.alloc (.cells #[.slice aa a.length ac, .slice ba b.length bc, .slice ca c.length cc] 128)).alloc (.cells #[.int .i64 0, .int .i64 0, .int .i64 0] 129))) := Lib.hid ((B2.out.alloc hs2 _).alloc (by rw [e2]; omega) _)
  have RG : Hid (((w2.alloc (.cells #[.slice aa a.length ac, .slice ba b.length bc, .slice ca c.length cc] 128)).alloc (.cells #[.int .i64 0, .int .i64 0, .int .i64 0] 129)).heap[w2.heap.size]? = some (.cells #[.slice aa a.length ac, .slice ba b.length bc, .slice ca c.length cc] 128 (0, 0))) := Lib.hid ((Below.heap_alloc _ _ _ (by rw [e2]; omega)).trans HX2.out)
  have GG : Hid (((w2.alloc (.cells #[.slice aa a.length ac, .slice ba b.length bc, .slice ca c.length cc] 128)).alloc (.cells #[.int .i64 0, .int .i64 0, .int .i64 0] 129)).heap[w2.heap.size + 1]? = some (.cells #[.int .i64 0, .int .i64 0, .int .i64 0] 129 (0, 0))) := Lib.hid (by have h := HX3.out; rw [e2] at h; exact h)
  have hsg : ((w2.alloc (.cells #[.slice aa a.length ac, .slice ba b.length bc, .slice ca c.length cc] 128)).alloc (.cells #[.int .i64 0, .int .i64 0, .int .i64 0] 129)).heap.size = w2.heap.size + 2 := by simp
  have HKG : Hid (∀ k, k < w2.heap.size → ((w2.alloc (.cells #[.slice aa a.length ac, .slice ba b.length bc, .slice ca c.length cc] 128)).alloc (.cells #[.int .i64 0, .int .i64 0, .int .i64 0] 129)).heap[k]? = w2.heap[k]?) := Lib.hid (fun k hk => (Below.heap_alloc _ _ _ (by rw [e2]; omega)).trans (Below.heap_alloc _ _ _ hk))
  go_upto_region 10 with fail
  clear HX2 HX3 e2
  generalize (w2.alloc (.cells #[.slice aa a.length ac, .slice ba b.length bc, .slice ca c.length cc] 128)).alloc (.cells #[.int .i64 0, .int .i64 0, .int .i64 0] 129) = wg at *
  have O1g := Lib.hid (O1b.out.kept (S' := fun k => k < w2.heap.size) (w' := wg) (fun k hk => ⟨hk, HKG.out k hk⟩))
  have O2g := Lib.hid (O2.out.kept (S' := fun k => k < w2.heap.size) (w' := wg) (fun k hk => ⟨hk, HKG.out k hk⟩))
  clear O1b O2 HKG B2
  obtain ⟨rb, hrb⟩ : ∃ rb, w2.heap.size = rb := ⟨_, rfl⟩
  obtain ⟨gb, hgb⟩ : ∃ gb, w2.heap.size + 1 = gb := ⟨_, rfl⟩
  rw [hgb] at GG ⊢
  rw [hrb] at RG O1g O2g hs2 hsg hgb ⊢
  have hRG : rb < gb := by omega
  have hGW : gb < wg.heap.size := by omega
  clear hrb hgb hsg
  go_wp2_with fail
  refine (fast_any _ _ _ _ P1 P2 wg (fun k hk => by omega) (fun k hk => by omega) O1g.out O2g.out hp1 hp2).mono ?_
  rintro e w4 ⟨v4, rfl, ho4, hb4⟩
  obtain ⟨FL, hFLe⟩ : ∃ FL, fastN P1 P2 = FL := ⟨_, rfl⟩
  rw [hFLe] at ho4 HFO HM HFL
  have HFL2 : FL.length ≤ 1048576 := by have := HFL.out; omega
  have B4 := Lib.hid (BG.out.trans (hb4.mono BG.out.size))
  have HT : Hid (∀ W, Spares (fun k => k = rb ∨ k = gb) w4 W → TripC (fun q => wg.heap.size ≤ q ∧ q < w4.heap.size) W v4 FL) := Lib.hid (fun W h => CellsC.kept (ownT_c ho4) (fun k hk => ⟨hk, h.block k hk.2 (by omega)⟩))
  obtain ⟨fa, fc, rfl⟩ := ownT_slice ho4
  have hs4 := hb4.size
  have M0 : Hid (MSt w w4 rb gb w4 a b c 0 0 0 (fun _ => False) (.slice none 0 0) []) := Lib.hid ⟨by
      obtain ⟨x0, x1, x2⟩ := box3 (w' := w4) RG.out (hb4.block rb (by omega))
      have hrw := (hb4.block rb (by omega)).trans RG.out
      exact ⟨_, _, _, x0, x1, x2, fun q => frozen_box hrw q, HA.out w4 B4.out, HB.out w4 B4.out, HC.out w4 B4.out⟩, by
      obtain ⟨x0, x1, x2⟩ := box3 (w' := w4) GG.out (hb4.block gb hGW)
      have hrw := (hb4.block gb hGW).trans GG.out
      exact ⟨x0, x1, x2, fun q => frozen_box hrw q⟩, PartsO.nil _ _, Spares.refl _ _, hs2, hRG, by omega⟩
  clear ho4 hb4 O1g O2g RG GG HA HB HC hp1 hp2 hFLe BG HFL
  go_wp2_with fail
  go_loopw [12, 42] (fun v n wr => ∃ (k i j l : Nat) (A B C : List (List UInt8)) (F : Nat → Prop) (ps : List (PartN (List UInt8))), k ≤ FL.length ∧ n = .int .i64 k ∧ Hid (MSt w w4 rb gb wr A B C i j l F v ps) ∧ Hid (A = a.drop i ∧ B = b.drop j ∧ C = c.drop l) ∧ Hid (FastOk a b c i j l (FL.drop k)) ∧ Hid ((segsN A B C i j l (FL.drop k)).foldl putN ps = M) ∧ Hid (ps.length ≤ 2 * k)) (fun _ n _ => FL.length - (intOf n).toNat)
  case atStart => exact ⟨0, 0, 0, 0, a, b, c, _, [], Nat.zero_le _, rfl, M0, Lib.hid ⟨rfl, rfl, rfl⟩, HFO, HM, Lib.hid (Nat.zero_le _)⟩
  case round =>
    obtain ⟨k, i, j, l, A, B, C, F, ps, hk, rfl, hMS, hABC, hFO, hE, hPL⟩ := hrel
    by_cases hlt : k < FL.length
    · obtain ⟨g, og, hfa, hgS, hfc1, hfc2, hcq⟩ := CellsC.at (HT.out wr hMS.out.sp) (by omega)
      subst hfa
      have hd : FL.drop k = FL.getD k (0, 0, 0) :: FL.drop (k + 1) := by rw [List.drop_eq_getElem_cons hlt, getD_at hlt]
      obtain ⟨q0, q1, q2⟩ := p3_at FL k hlt
      have c0 : wr.cell? ⟨g, og + k * 3, none⟩ = _ := hcq _ _ q0
      have c1 : wr.cell? ⟨g, og + k * 3 + 1, none⟩ = _ := hcq _ _ q1
      have c2 : wr.cell? ⟨g, og + k * 3 + 2, none⟩ = _ := hcq _ _ q2
      have hFO2 := hFO.out
      have hE2 := hE.out
      rw [hd] at hFO2 hE2
      generalize FL.getD k (0, 0, 0) = f at *
      obtain ⟨x, y, z⟩ := f
      obtain ⟨f1, f2, f3, f4, f5, f6, _, _, f9⟩ := hFO2
      simp only at f1 f2 f3 f4 f5 f6 f9 c0 c1 c2
      have HF9 := Lib.hid f9
      have hE3 : (segsN (((A.drop (x - i))).drop 1) ((B.drop (y - j)).drop 1) ((C.drop (z - l)).drop 1) (x + 1) (y + 1) (z + 1) (FL.drop (k + 1))).foldl putN (putN (putN ps (mkN (A.take (x - i)) (B.take (y - j)) (C.take (z - l)))) (mkN ((A.drop (x - i)).take 1) ((B.drop (y - j)).take 1) ((C.drop (z - l)).take 1))) = M := hE2
      have hE4 : ((mkN ((A.drop (x - i)).take 1) ((B.drop (y - j)).take 1) ((C.drop (z - l)).take 1)) :: (segsN (((A.drop (x - i))).drop 1) ((B.drop (y - j)).drop 1) ((C.drop (z - l)).drop 1) (x + 1) (y + 1) (z + 1) (FL.drop (k + 1)))).foldl putN (putN ps (mkN (A.take (x - i)) (B.take (y - j)) (C.take (z - l)))) = M := hE2
      have HE3 := Lib.hid hE3
      have HQ1 := Lib.hid (put_bound (a := a) (b := b) (c := c) (hE2.trans HMM.out.symm))
      have HQ2 := Lib.hid (put_bound (a := a) (b := b) (c := c) (hE4.trans HMM.out.symm))
      obtain ⟨hA, hB, hC⟩ := hABC.out
      have hAl : A.length = a.length - i := by rw [hA]; simp
      have hBl : B.length = b.length - j := by rw [hB]; simp
      have hCl : C.length = c.length - l := by rw [hC]; simp
      have HABC2 : Hid (((A.drop (x - i))).drop 1 = a.drop (x + 1) ∧ ((B.drop (y - j)).drop 1) = b.drop (y + 1) ∧ ((C.drop (z - l)).drop 1) = c.drop (z + 1)) := Lib.hid ⟨by rw [hA, List.drop_drop, List.drop_drop]; congr 1; omega, by rw [hB, List.drop_drop, List.drop_drop]; congr 1; omega, by rw [hC, List.drop_drop, List.drop_drop]; congr 1; omega⟩
      have d0 : (x : Int) - (i : Int) = ((x - i : Nat) : Int) := by omega
      have d1 : (y : Int) - (j : Int) = ((y - j : Nat) : Int) := by omega
      have d2 : (z : Int) - (l : Int) = ((z - l : Nat) : Int) := by omega
      have wb : x - i ≤ 4194304 ∧ y - j ≤ 4194304 ∧ z - l ≤ 4194304 ∧ x + 1 ≤ 4194304 ∧ y + 1 ≤ 4194304 ∧ z + 1 ≤ 4194304 := by omega
      obtain ⟨w0, w1b, w2b, w3b, w4b, w5b⟩ := wb
      have e0 : (x : Int) + 1 = ((x + 1 : Nat) : Int) := by omega
      have e1 : (y : Int) + 1 = ((y + 1 : Nat) : Int) := by omega
      have e2 : (z : Int) + 1 = ((z + 1 : Nat) : Int) := by omega
      have r0 : x - i ≤ A.length := by omega
      have r1 : y - j ≤ B.length := by omega
      have r2 : z - l ≤ C.length := by omega
      have t0 : 1 ≤ (A.drop (x - i)).length := by rw [List.length_drop]; omega
      have t1 : 1 ≤ (B.drop (y - j)).length := by rw [List.length_drop]; omega
      have t2 : 1 ≤ (C.drop (z - l)).length := by rw [List.length_drop]; omega
      have HLN : Hid (A.length ≤ 4194304 ∧ B.length ≤ 4194304 ∧ C.length ≤ 4194304) := Lib.hid (by omega)
      have HLN2 : Hid ((A.drop (x - i)).length ≤ 4194304 ∧ (B.drop (y - j)).length ≤ 4194304 ∧ (C.drop (z - l)).length ≤ 4194304) := Lib.hid (by rw [List.length_drop, List.length_drop, List.length_drop]; omega)
      have HP1 : Hid ((mkN (A.take (x - i)) (B.take (y - j)) (C.take (z - l))).base.length ≤ 4194304 ∧ (mkN (A.take (x - i)) (B.take (y - j)) (C.take (z - l))).ours.length ≤ 4194304 ∧ (mkN (A.take (x - i)) (B.take (y - j)) (C.take (z - l))).theirs.length ≤ 4194304) := Lib.hid (by simp only [mkN, List.length_take]; omega)
      have HP2 : Hid ((mkN ((A.drop (x - i)).take 1) ((B.drop (y - j)).take 1) ((C.drop (z - l)).take 1)).base.length ≤ 4194304 ∧ (mkN ((A.drop (x - i)).take 1) ((B.drop (y - j)).take 1) ((C.drop (z - l)).take 1)).ours.length ≤ 4194304 ∧ (mkN ((A.drop (x - i)).take 1) ((B.drop (y - j)).take 1) ((C.drop (z - l)).take 1)).theirs.length ≤ 4194304) := Lib.hid (by simp only [mkN, List.length_take]; omega)
      obtain ⟨x', hx'⟩ : ∃ n, x + 1 = n := ⟨_, rfl⟩
      obtain ⟨y', hy'⟩ : ∃ n, y + 1 = n := ⟨_, rfl⟩
      obtain ⟨z', hz'⟩ : ∃ n, z + 1 = n := ⟨_, rfl⟩
      rw [hx'] at HF9 HE3 HABC2 e0 w3b
      rw [hy'] at HF9 HE3 HABC2 e1 w4b
      rw [hz'] at HF9 HE3 HABC2 e2 w5b
      generalize x - i = m0 at *
      generalize y - j = m1 at *
      generalize z - l = m2 at *
      have R0 := Lib.hid r0
      have R1 := Lib.hid r1
      have R2 := Lib.hid r2
      have T0 := Lib.hid t0
      have T1 := Lib.hid t1
      have T2 := Lib.hid t2
      clear hd q0 q1 q2 hcq hE2 f1 f2 f3 f4 f5 f6 f9 hE3 hE4 hA hB hC hAl hBl hCl hx' hy' hz' r0 r1 r2 t0 t1 t2 hABC hFO hE
      have MF := Lib.hid (hMS.out.on (Spares.of_alloc _ wr (.cells #[.int .i64 (x : Int), .int .i64 (y : Int), .int .i64 (z : Int)] 129)))
      have FB := Lib.hid (new_five wr #[.int .i64 (x : Int), .int .i64 (y : Int), .int .i64 (z : Int)] 129)
      have hfb : wr.heap.size < (wr.alloc (.cells #[.int .i64 (x : Int), .int .i64 (y : Int), .int .i64 (z : Int)] 129)).heap.size := by simp
      have HNF : Hid (∀ q, F q → q ≠ wr.heap.size) := Lib.hid (fun q hq => by have := (hMS.out.parts.1 q hq).2; omega)
      have hfl : w4.heap.size ≤ wr.heap.size := hMS.out.sp.size
      go_upto_region 13 with fail
      clear c0 c1 c2
      generalize wr.alloc (.cells #[.int .i64 (x : Int), .int .i64 (y : Int), .int .i64 (z : Int)] 129) = wf at *
      obtain ⟨fb, hfbe⟩ : ∃ fb, wr.heap.size = fb := ⟨_, rfl⟩
      rw [hfbe] at FB hfb HNF hfl ⊢
      clear hfbe hMS
      obtain ⟨b0, b1, b2⟩ := box3 (w' := wf) FB.out rfl
      obtain ⟨g0, g1, g2, _⟩ := MF.out.gone
      go_wp2_with fail
      refine (MF.out.part m0 m1 m2 R0.out R1.out R2.out HLN.out).mono ?_
      rintro e w5 ⟨u1, u2, u3, rfl, hM5, hO5, hs5⟩
      have M5 := Lib.hid hM5
      have FB5 := Lib.hid ((hs5.block fb hfb (by omega)).trans FB.out)
      have hfb5 : fb < w5.heap.size := Nat.lt_of_lt_of_le hfb hs5.size
      have O5 := Lib.hid hO5
      have hsz5 := hs5.size
      clear hM5 hO5 hs5 b0 b1 b2 g0 g1 g2 d0 d1 d2
      go_wp2_with fail
      refine (M5.out.put (G := fun q => wf.heap.size ≤ q ∧ q < w5.heap.size) (mkN (A.take m0) (B.take m1) (C.take m2)) u1 u2 u3 O5.out (fun q h1 h2 => by have := (MF.out.parts.1 q h1).2; omega) (fun q h => by omega) (by have := hPL.out; omega) HP1.out (fun q hq => by obtain ⟨z1, z2, z3⟩ := HQ1.out q hq; omega)).mono ?_
      rintro e w6 ⟨v6, F6, rfl, hM6, hf6, hs6⟩
      have M6 := Lib.hid hM6
      have FB6 := Lib.hid ((hs6.block fb hfb5 (fun h => HNF.out fb h rfl)).trans FB5.out)
      have hfb6 : fb < w6.heap.size := Nat.lt_of_lt_of_le hfb5 hs6.size
      have HNF6 : Hid (∀ q, F6 q → q ≠ fb) := Lib.hid (fun q hq e => by rcases hf6 q hq with h | h | h; exact HNF.out q h e; omega; omega)
      have HPL6 : Hid ((putN ps (mkN (A.take m0) (B.take m1) (C.take m2))).length ≤ 2 * k + 1) := Lib.hid (by have := putN_len ps (mkN (A.take m0) (B.take m1) (C.take m2)); have := hPL.out; omega)
      clear hM6 hf6 hs6 MF M5 FB FB5 HNF O5 HP1 HQ1
      generalize putN ps (mkN (A.take m0) (B.take m1) (C.take m2)) = ps6 at *
      go_wp2_with fail
      refine (M6.out.part 1 1 1 T0.out T1.out T2.out HLN2.out).mono ?_
      rintro e w7 ⟨u4, u5, u6, rfl, hM7, hO7, hs7⟩
      have M7 := Lib.hid hM7
      have FB7 := Lib.hid ((hs7.block fb hfb6 (by omega)).trans FB6.out)
      have hfb7 : fb < w7.heap.size := Nat.lt_of_lt_of_le hfb6 hs7.size
      have O7 := Lib.hid hO7
      have hsz7 := hs7.size
      clear hM7 hO7 hs7
      go_wp2_with fail
      refine (M7.out.put (G := fun q => w6.heap.size ≤ q ∧ q < w7.heap.size) (mkN ((A.drop m0).take 1) ((B.drop m1).take 1) ((C.drop m2).take 1)) u4 u5 u6 O7.out (fun q h1 h2 => by have := (M6.out.parts.1 q h1).2; omega) (fun q h => by have := M6.out.sp.size; omega) (by have := HPL6.out; omega) HP2.out (fun q hq => by obtain ⟨z1, z2, z3⟩ := HQ2.out q hq; omega)).mono ?_
      rintro e w8 ⟨v8, F8, rfl, hM8, hf8, hs8⟩
      have M8 := Lib.hid hM8
      obtain ⟨b0, b1, b2⟩ := box3 (w' := w8) FB7.out (hs8.block fb hfb7 (fun h => HNF6.out fb h rfl))
      obtain ⟨g0, g1, g2, gz⟩ := M8.out.gone
      have z0 := gz 0
      have z1 := gz 1
      have z2 := gz 2
      have HPL8 : Hid ((putN ps6 (mkN ((A.drop m0).take 1) ((B.drop m1).take 1) ((C.drop m2).take 1))).length ≤ 2 * (k + 1)) := Lib.hid (by have := putN_len ps6 (mkN ((A.drop m0).take 1) ((B.drop m1).take 1) ((C.drop m2).take 1)); have := HPL6.out; omega)
      clear hM8 hf8 hs8 M6 M7 FB6 FB7 HNF6 O7 HP2 HQ2 gz
      have MS8 := Lib.hid (M8.out.set x' y' z')
      unfold set3 at MS8
      go_wp2_with fail
      go_roundw
      case rel => exact ⟨k + 1, x', y', z', _, _, _, F8, _, by omega, by go_num, MS8, HABC2, HF9, HE3, HPL8⟩
      case measure => simp [intOf]; omega
    · have hkl : FL.drop k = [] := List.drop_eq_nil_of_le (by omega)
      have hE2 := hE.out
      rw [hkl] at hE2
      have HEF : Hid (putN ps (mkN A B C) = M) := Lib.hid hE2
      have HQ1 := Lib.hid (put_bound (a := a) (b := b) (c := c) (hE2.trans HMM.out.symm))
      obtain ⟨hA, hB, hC⟩ := hABC.out
      have HLN : Hid (A.length ≤ 4194304 ∧ B.length ≤ 4194304 ∧ C.length ≤ 4194304) := Lib.hid (by rw [hA, hB, hC, List.length_drop, List.length_drop, List.length_drop]; omega)
      obtain ⟨vA, vB, vC, r0, r1, r2, _, s0, s1, s2⟩ := hMS.out.rest
      obtain ⟨a1, c1, rfl⟩ := s0.shape
      obtain ⟨a2, c2, rfl⟩ := s1.shape
      obtain ⟨a3, c3, rfl⟩ := s2.shape
      clear hkl hE2 hE hFO hABC hA hB hC s0 s1 s2
      go_wp2_with fail
      refine (hMS.out.part A.length B.length C.length (Nat.le_refl _) (Nat.le_refl _) (Nat.le_refl _) HLN.out).mono ?_
      rintro e w5 ⟨u1, u2, u3, rfl, hM5, hO5, hs5⟩
      rw [List.take_length, List.take_length, List.take_length] at hO5 ⊢
      have M5 := Lib.hid hM5
      have O5 := Lib.hid hO5
      have hsz5 := hs5.size
      clear hM5 hO5 hs5 r0 r1 r2
      go_wp2_with fail
      refine (M5.out.put (G := fun q => wr.heap.size ≤ q ∧ q < w5.heap.size) (mkN A B C) u1 u2 u3 O5.out (fun q h1 h2 => by have := (hMS.out.parts.1 q h1).2; omega) (fun q h => by have := hMS.out.sp.size; omega) (by have := hPL.out; omega) HLN.out (fun q hq => by obtain ⟨z1, z2, z3⟩ := HQ1.out q hq; omega)).mono ?_
      rintro e w6 ⟨v6, F6, rfl, hM6, hf6, hs6⟩
      rw [HEF.out] at hM6
      have M6 := Lib.hid hM6
      clear hM6 hf6 hs6
      go_wp2_with fail
      go_ret2
      refine ⟨v6, rfl, M6.out.parts.rows.kept part_keeps (fun q hq => ⟨?_, rfl⟩), B4.out.trans (M6.out.sp.below (fun q hq => by omega) (by omega))⟩
      have := M6.out.parts.1 q hq
      omega
end Go.Proofs.YtjlpdoppnhcjoaaDoor
