/- The walk of Pairs; rows of records that hold slices of texts. -/
import Derived.Test.YtfiogjdjcocbnaaLinI
import Derived.Test.YtfiogjdjcocbnaaLinB
namespace Go.Proofs.Ytfiogjdjcocbnaa
open Go.RowKit

theorem many_le {x y : Nat} (hx : 1 ≤ x) (hy : 1 ≤ y) (h : x * y ≤ 1048576) : x ≤ 1048576 ∧ y ≤ 1048576 ∧ (x + 1) * (y + 1) ≤ 8388608 := by
  have h1 : x * 1 ≤ x * y := Nat.mul_le_mul_left x hy
  have h2 : 1 * y ≤ x * y := Nat.mul_le_mul_right y hx
  have h3 : (x + 1) * (y + 1) = x * y + x + y + 1 := by rw [Nat.add_mul, Nat.mul_add]; omega
  omega
theorem div_cast (m : Nat) : (1048576 : Int) / (m : Int) = ((1048576 / m : Nat) : Int) := (Int.natCast_ediv 1048576 m).symm
set_option maxRecDepth 100000 in
set_option maxHeartbeats 4000000 in
theorem pairs_any (S T : Nat → Prop) (va vb : Value) (a b : List (List UInt8)) (w : World) (hS : ∀ k, S k → k < w.heap.size) (hT : ∀ k, T k → k < w.heap.size) (ha : StrsC S w va a) (hb : StrsC T w vb b) (hal : a.length ≤ 4194304) (hbl : b.length ≤ 4194304) (hax : ∀ x ∈ a, x.length ≤ 4194304) (hbx : ∀ x ∈ b, x.length ≤ 4194304)
    (hm : a.length * b.length ≤ 1048576) :
    Calls Try.prog 25 #[va, vb] w fun e w' => ∃ v, e = .returned (.tuple #[v, .int .i64 0]) ∧ OwnP w' w.heap.size v (pairsN a 0 b 0) ∧ Below w.heap.size w w' := by
  have HR := Lib.hid (Below.refl w.heap.size w)
  by_cases ha0 : a.length = 0
  · obtain ⟨aa, ac, rfl⟩ := ha.shape
    obtain ⟨ba, bc, rfl⟩ := hb.shape
    have hE : Hid (pairsN a 0 b 0 = []) := Lib.hid (by rw [List.length_eq_zero_iff.1 ha0]; rfl)
    rw [ha0]
    clear ha hb hS hT hax hbx hm ha0
    go_enter Try.func25, Try.ntmps25
    go_wp2_with fail
    go_ret2
    exact ⟨_, rfl, by rw [hE.out]; exact ownP_nil _ _, HR.out⟩
  · by_cases hb0 : b.length = 0
    · obtain ⟨aa, ac, rfl⟩ := ha.shape
      obtain ⟨ba, bc, rfl⟩ := hb.shape
      have hE : Hid (pairsN a 0 b 0 = []) := Lib.hid (by rw [List.length_eq_zero_iff.1 hb0, pairsN_none])
      have g0 : ((a.length : Int) == 0) = false := by rw [beq_eq_false_iff_ne]; omega
      rw [hb0]
      clear ha hb hS hT hax hbx hm ha0 hb0
      go_enter Try.func25, Try.ntmps25
      go_wp2_with fail
      go_ret2
      exact ⟨_, rfl, by rw [hE.out]; exact ownP_nil _ _, HR.out⟩
    · have HNum := Lib.hid (numbers_any S T va vb a b w hS hT ha hb hal hbl hax hbx)
      obtain ⟨aa, ac, rfl⟩ := ha.shape
      obtain ⟨ba, bc, rfl⟩ := hb.shape
      have g0 : ((a.length : Int) == 0) = false := by rw [beq_eq_false_iff_ne]; omega
      have g1 : ((b.length : Int) == 0) = false := by rw [beq_eq_false_iff_ne]; omega
      obtain ⟨hm1, hm2, hm3⟩ := many_le (x := a.length) (y := b.length) (by omega) (by omega) hm
      have hq : ¬ 1048576 / a.length < b.length := by rw [work_iff (by omega)]; omega
      have hdiv := div_cast a.length
      have hpos : 1 ≤ a.length := by omega
      have hp := pairsN_map (fun x => (numK a b).idxOf x) a b 0 0 (num_inj a b)
      have HP : Hid (pairsN (numA a b) 0 (numB a b) 0 = pairsN a 0 b 0) := Lib.hid hp
      have hla : (numA a b).length = a.length := by unfold numA; simp
      have hlb : (numB a b).length = b.length := by unfold numB; simp
      have HW := Lib.hid (fun (w1 : World) va' vb' h1 h2 => walk_any (fun k => w.heap.size ≤ k ∧ k < w1.heap.size) (fun k => w.heap.size ≤ k ∧ k < w1.heap.size) va' vb' (numA a b) (numB a b) _ w1 (fun k hk => hk.2) (fun k hk => hk.2) h1 h2 (by omega) (by omega) rfl (by rw [hla, hlb]; exact hm3))
      generalize 1048576 / a.length = k at *
      have hkb : b.length ≤ k := by omega
      generalize numA a b = na at *
      generalize numB a b = nb at *
      clear ha hb hS hT hax hbx hm ha0 hb0 hq hp hla hlb hm3
      go_enter Try.func25, Try.ntmps25
      go_wp2_with fail
      refine HNum.out.mono ?_
      rintro e w1 ⟨v1, v2, rfl, ho1, ho2, hb1⟩
      have C1 := Lib.hid (HW.out w1 v1 v2 (ownI_c ho1) (ownI_c ho2))
      have B1 := Lib.hid hb1
      clear ho1 ho2 hb1
      go_wp2_with fail
      refine C1.out.mono ?_
      rintro e w2 ⟨v, rfl, ho, hb2⟩
      have O2 := Lib.hid ho
      have B2 := Lib.hid (B1.out.trans (hb2.mono B1.out.size))
      have hs1 := B1.out.size
      clear ho hb2
      go_wp2_with fail
      go_ret2
      exact ⟨v, rfl, own_base (by rw [← HP.out]; exact O2.out) hs1, B2.out⟩
set_option maxRecDepth 100000 in
set_option maxHeartbeats 4000000 in
theorem pairs_long (S T : Nat → Prop) (va vb : Value) (a b : List (List UInt8)) (w : World) (ha : StrsC S w va a) (hb : StrsC T w vb b) (hal : a.length ≤ 4194304) (hbl : b.length ≤ 4194304) (hm : 1048576 < a.length * b.length) :
    Calls Try.prog 25 #[va, vb] w fun e w' => e = .returned (.tuple #[.slice none 0 0, .int .i64 2]) ∧ w = w' := by
  obtain ⟨aa, ac, rfl⟩ := ha.shape
  obtain ⟨ba, bc, rfl⟩ := hb.shape
  have ha0 : a.length ≠ 0 := fun e => by rw [e] at hm; omega
  have hb0 : b.length ≠ 0 := fun e => by rw [e] at hm; omega
  have g0 : ((a.length : Int) == 0) = false := by rw [beq_eq_false_iff_ne]; omega
  have g1 : ((b.length : Int) == 0) = false := by rw [beq_eq_false_iff_ne]; omega
  have hq : 1048576 / a.length < b.length := by rw [work_iff (by omega)]; omega
  have hdiv := div_cast a.length
  have hpos : 1 ≤ a.length := by omega
  generalize 1048576 / a.length = k at *
  clear ha hb hm ha0 hb0
  go_enter Try.func25, Try.ntmps25
  go_wp2_with fail
  go_ret2
  exact ⟨rfl, rfl⟩
/-- A slice value whose elements of sz cells each read as these things. -/
def RowsC {E : Type} (rel : (Nat → Prop) → World → E → List Value → Prop) (sz : Nat) (S : Nat → Prop) (w : World) (v : Value) (es : List E) : Prop :=
  ∃ css : List (List Value), css.length = es.length ∧ (∀ cs ∈ css, cs.length = sz) ∧ CellsC S w v es.length sz css.flatten ∧ ∀ (j : Nat) (e : E) (cs : List Value), es[j]? = some e → css[j]? = some cs → rel S w e cs
/-- What stays so while blocks stay. -/
def Keeps {E : Type} (rel : (Nat → Prop) → World → E → List Value → Prop) : Prop := ∀ (S S' : Nat → Prop) (w w' : World) (e : E) (cs : List Value), rel S w e cs → (∀ k, S k → S' k ∧ w'.heap[k]? = w.heap[k]?) → rel S' w' e cs
theorem RowsC.kept {E : Type} {rel : (Nat → Prop) → World → E → List Value → Prop} (hr : Keeps rel) {sz : Nat} {S S' : Nat → Prop} {w w' : World} {v : Value} {es : List E} (h : RowsC rel sz S w v es) (hk : ∀ k, S k → S' k ∧ w'.heap[k]? = w.heap[k]?) : RowsC rel sz S' w' v es := by
  obtain ⟨css, h1, h2, h3, h4⟩ := h
  exact ⟨css, h1, h2, h3.kept hk, fun j e cs he hc => hr S S' w w' e cs (h4 j e cs he hc) hk⟩
theorem RowsC.shape {E : Type} {rel : (Nat → Prop) → World → E → List Value → Prop} {sz : Nat} {S : Nat → Prop} {w : World} {v : Value} {es : List E} (h : RowsC rel sz S w v es) : ∃ a c, v = .slice a es.length c := by
  obtain ⟨css, _, _, h3, _⟩ := h
  exact h3.shape
theorem flatten_at {sz : Nat} : ∀ (css : List (List Value)) (k : Nat) (cs : List Value), (∀ c ∈ css, c.length = sz) → css[k]? = some cs → ∀ i, i < sz → css.flatten[k * sz + i]? = cs[i]?
  | [], _, _, _, h, _, _ => by simp at h
  | c :: css, 0, cs, hs, h, i, hi => by
    simp at h; subst h
    rw [List.flatten_cons, Nat.zero_mul, Nat.zero_add, List.getElem?_append_left (by rw [hs c List.mem_cons_self]; exact hi)]
  | c :: css, k + 1, cs, hs, h, i, hi => by
    have ih := flatten_at css k cs (fun x hx => hs x (List.mem_cons_of_mem _ hx)) (by simpa using h) i hi
    have hc := hs c List.mem_cons_self
    have e : (k + 1) * sz + i = sz + (k * sz + i) := by rw [Nat.add_mul]; omega
    rw [List.flatten_cons, List.getElem?_append_right (by rw [hc, e]; omega), ← ih, hc, e, Nat.add_sub_cancel_left]
theorem flatten_len {sz : Nat} : ∀ (css : List (List Value)), (∀ c ∈ css, c.length = sz) → css.flatten.length = css.length * sz
  | [], _ => by simp
  | c :: css, hs => by
    have ih := flatten_len css (fun x hx => hs x (List.mem_cons_of_mem _ hx))
    rw [List.flatten_cons, List.length_append, ih, hs c List.mem_cons_self, List.length_cons, Nat.add_mul]; omega
/-- One element of such a slice: its cells, and what they read as. -/
theorem RowsC.at {E : Type} {rel : (Nat → Prop) → World → E → List Value → Prop} {sz : Nat} {S : Nat → Prop} {w : World} {a : Option Addr} {c : Nat} {es : List E} (h : RowsC rel sz S w (.slice a es.length c) es) (hn : 0 < es.length) :
    ∃ g o, a = some ⟨g, o, none⟩ ∧ S g ∧ es.length ≤ c ∧ c ≤ 9223372036854775807 ∧ ∀ k e, es[k]? = some e → ∃ cs, cs.length = sz ∧ rel S w e cs ∧ ∀ i x, cs[i]? = some x → w.cell? ⟨g, o + (k * sz + i), none⟩ = some x := by
  obtain ⟨css, h1, h2, h3, h4⟩ := h
  obtain ⟨g, o, k1, k2, k3, k4, k5⟩ := h3.at hn
  refine ⟨g, o, k1, k2, k3, k4, fun k e he => ?_⟩
  have hk : k < css.length := by rw [h1]; exact (List.getElem?_eq_some_iff.1 he).1
  have hc : css[k]? = some css[k] := List.getElem?_eq_getElem hk
  have hcl := h2 _ (List.getElem_mem hk)
  refine ⟨css[k], hcl, h4 k e _ he hc, fun i x hx => ?_⟩
  have hi : i < sz := by rw [← hcl]; exact (List.getElem?_eq_some_iff.1 hx).1
  exact k5 _ _ ((flatten_at css k _ h2 hc i hi).trans hx)
/-- A row of one's own whose elements read as these things, by blocks that are not the row's. -/
structure OwnR {E : Type} (rel : (Nat → Prop) → World → E → List Value → Prop) (t : TypeId) (sz : Nat) (S : Nat → Prop) (w : World) (B : Nat) (v : Value) (css : List (List Value)) (es : List E) : Prop where
  own : w.ownsRow B t sz v es.length css.flatten
  len : css.length = es.length
  each : ∀ cs ∈ css, cs.length = sz
  one : ∀ u ∈ css.flatten, u.oneCell' = true
  reads : ∀ (j : Nat) (e : E) (cs : List Value), es[j]? = some e → css[j]? = some cs → rel (fun k => S k ∧ k < w.heap.size ∧ v.ownBlock ≠ some k) w e cs
theorem OwnR.nil {E : Type} (rel : (Nat → Prop) → World → E → List Value → Prop) (t : TypeId) (sz : Nat) (S : Nat → Prop) (w : World) (B : Nat) : OwnR rel t sz S w B (.slice none 0 0) [] [] :=
  ⟨World.ownsRow_nil _ _ _ _, rfl, fun _ h => (by cases h), fun _ h => (by cases h), fun j e cs h _ => by simp at h⟩
/-- One element more. -/
theorem OwnR.push {E : Type} {rel : (Nat → Prop) → World → E → List Value → Prop} (hr : Keeps rel) {t : TypeId} {sz B : Nat} {S : Nat → Prop} {w w2 w4 : World} {v v' : Value} {css : List (List Value)} {es : List E} {cs : List Value} {e : E} (h : OwnR rel t sz S w B v css es)
    (h1 : ∀ k, k < w.heap.size → v.ownBlock ≠ some k → w2.heap[k]? = w.heap[k]?) (hs : w.heap.size ≤ w2.heap.size) (hg : Grew w2 w4 v v') (hcs : cs.length = sz) (hc1 : ∀ u ∈ cs, u.oneCell' = true)
    (hown : w4.ownsRow B t sz v' (es.length + 1) (css.flatten ++ cs)) (hnew : rel (fun k => S k ∧ k < w2.heap.size ∧ v.ownBlock ≠ some k) w2 e cs) : OwnR rel t sz S w4 B v' (css ++ [cs]) (es ++ [e]) := by
  have hs4 := hg.size
  have keep : ∀ k, k < w2.heap.size → v.ownBlock ≠ some k → (k < w4.heap.size ∧ v'.ownBlock ≠ some k) ∧ w4.heap[k]? = w2.heap[k]? := fun k hk hne => by
    refine ⟨⟨by omega, fun e => ?_⟩, hg.gb.block k hk (fun e => hne e.symm)⟩
    rcases hg.own k e with e2 | e2
    · exact hne e2
    · omega
  refine ⟨by rw [List.length_append, List.flatten_append]; simpa using hown, by simp [h.len], fun c hc => ?_, fun u hu => ?_, fun j x c hx hc => ?_⟩
  · rcases List.mem_append.1 hc with hc | hc
    · exact h.each c hc
    · rw [List.mem_singleton] at hc; rw [hc]; exact hcs
  · rw [List.flatten_append] at hu
    rcases List.mem_append.1 hu with hu | hu
    · exact h.one u hu
    · simp at hu; exact hc1 u hu
  · by_cases hj : j < es.length
    · rw [List.getElem?_append_left hj] at hx
      rw [List.getElem?_append_left (by rw [h.len]; exact hj)] at hc
      refine hr _ _ _ _ _ _ (h.reads j x c hx hc) (fun k ⟨k1, k2, k3⟩ => ?_)
      obtain ⟨⟨a1, a2⟩, a3⟩ := keep k (by omega) k3
      exact ⟨⟨k1, a1, a2⟩, a3.trans (h1 k k2 k3)⟩
    · have hj2 : j = es.length := by
        have := (List.getElem?_eq_some_iff.1 hx).1
        simp at this; omega
      subst hj2
      rw [List.getElem?_append_right (Nat.le_refl _), Nat.sub_self] at hx
      rw [← h.len, List.getElem?_append_right (Nat.le_refl _), Nat.sub_self] at hc
      simp at hx hc
      subst hx hc
      refine hr _ _ _ _ _ _ hnew (fun k ⟨k1, k2, k3⟩ => ?_)
      obtain ⟨⟨a1, a2⟩, a3⟩ := keep k k2 k3
      exact ⟨⟨k1, a1, a2⟩, a3⟩
theorem OwnR.rows {E : Type} {rel : (Nat → Prop) → World → E → List Value → Prop} (hr : Keeps rel) {t : TypeId} {sz B : Nat} {S : Nat → Prop} {w : World} {v : Value} {css : List (List Value)} {es : List E} (h : OwnR rel t sz S w B v css es) : RowsC rel sz (fun k => (B ≤ k ∨ S k) ∧ k < w.heap.size) w v es :=
  ⟨css, h.len, h.each, (own_cells h.own h.one).kept (fun _ hk => ⟨⟨Or.inl hk.1, hk.2⟩, rfl⟩), fun j e cs he hc => hr _ _ _ _ _ _ (h.reads j e cs he hc) (fun _ hk => ⟨⟨Or.inr hk.1, hk.2.1⟩, rfl⟩)⟩
/-- A hunk in memory. -/
def hunkRel (S : Nat → Prop) (w : World) (h : HunkN (List UInt8)) (cs : List Value) : Prop := ∃ v1 v2, cs = [.int .i64 h.place, v1, v2] ∧ StrsC S w v1 h.old ∧ StrsC S w v2 h.new
theorem hunk_keeps : Keeps hunkRel := by
  rintro S S' w w' h cs ⟨v1, v2, rfl, h1, h2⟩ hk
  exact ⟨v1, v2, rfl, h1.kept hk, h2.kept hk⟩
abbrev HunksC := RowsC hunkRel 3
end Go.Proofs.Ytfiogjdjcocbnaa
