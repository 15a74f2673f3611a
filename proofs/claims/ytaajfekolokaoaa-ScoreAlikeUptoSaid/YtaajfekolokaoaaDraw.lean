/- A region that draws its order and ends in one operation that waits for all others (a store): what only reads, and calls that read and draw, may be taken first. -/
import Derived.Deep.RegionHeld3
import Derived.Deep.QuietTactic
import Derived.StillTailTactics
namespace Go.Proofs.Ytaajfekolokaoaa
open Go

variable {P : Program} {ops : Array Oper} {md : Region.Mode} {Q : Exit → Act → World → Prop} {S : World → Prop} {t : Nat}

/-- Either it yields v where S holds, or it calls what reads, draws and returns v. -/
def YieldsD (P : Program) (ops : Array Oper) (S : World → Prop) (o : Oper) (v : Value) (a : Act) : Prop :=
  YieldsIf P ops S o v a ∨ (Region.wanted o (yielded ops a.tmps) = true ∧ ∀ W, S W → ∃ f args, (execOp a.eval o).run P W = .ok (.enter f args) W ∧ Calls P f args W fun e w' => e = .returned v ∧ ∃ n, w' = W.drewN n)
theorem YieldsD.of_same {o : Oper} {v : Value} {a a' : Act} (hy : YieldsD P ops S o v a) (he : execOp a'.eval o = execOp a.eval o) (hw : Region.wanted o (yielded ops a'.tmps) = Region.wanted o (yielded ops a.tmps)) : YieldsD P ops S o v a' := by
  rcases hy with hy | hy
  · exact Or.inl (hy.of_same he hw)
  · right
    rw [hw, he]
    exact hy
theorem YieldsD.wpOp {i : Nat} {o : Oper} {v : Value} {a : Act} (hi : ops[i]? = some o) (hy : YieldsD P ops S o v a) {K : Act → World → Prop} {w : World} (hS : S w) (h : ∀ n, K (a.put o.dst v) (w.drewN n)) : Go.wpOp P ops Q i K a w := by
  rcases hy with hy | ⟨hw, hc⟩
  · exact hy.wpOp hi hS (h 0)
  · obtain ⟨f, args, h1, h2⟩ := hc w hS
    unfold Go.wpOp
    simp only [hi, hw, if_true, Oper.wp, h1, Oper.upon]
    left
    refine Calls.mono h2 fun e w' ⟨he, n, hn⟩ => ?_
    subst he hn
    exact h n
theorem wpOp_putD {j : Nat} {oi oj : Oper} {v : Value} (hj : ops[j]? = some oj) (hap : oi.apart ops oj = true)
    (hsi : ∀ cs b, oi.op ≠ .select cs b) (hsj : ∀ cs b, oj.op ≠ .select cs b) (hQ : ∀ c a w, Q (.panic c) (a.put oi.dst v) w → Q (.panic c) a w)
    {K : Act → World → Prop} {a : Act} {w : World} (hy : YieldsD P ops S oi v a) (h : Go.wpOp P ops Q j K (a.put oi.dst v) w) :
    Go.wpOp P ops Q j (fun a' w' => YieldsD P ops S oi v a' ∧ K (a'.put oi.dst v) w') a w := by
  obtain ⟨p1, p2, p3⟩ := Oper.apart_spec hap
  have keep : ∀ (b : Act), YieldsD P ops S oi v b → ∀ u, YieldsD P ops S oi v (b.put oj.dst u) := fun b hb u => hb.of_same (execOp_put oi hsi b oj.dst u p3) (wanted_put oi b oj.dst u p3)
  have move : ∀ u, (a.put oi.dst v).put oj.dst u = (a.put oj.dst u).put oi.dst v := fun u => Act.put_comm a v u p2
  unfold Go.wpOp at *
  simp only [hj] at *
  rw [wanted_put oj a oi.dst v p1] at h
  by_cases hw : Region.wanted oj (yielded ops a.tmps) = true
  · simp only [hw, if_true] at h ⊢
    rcases h with h | ⟨h1, h2⟩
    · left
      unfold Oper.wp at *
      rw [execOp_put oj hsj a oi.dst v p1] at h
      generalize (execOp a.eval oj).run P w = r at *
      rcases r with ⟨n, w'⟩ | ⟨x, w'⟩
      · cases n <;> simp only [Oper.upon] at h ⊢
        case value u => exact ⟨keep a hy u, by rw [← move]; exact h⟩
        case skip => exact ⟨keep a hy _, by rw [← move]; exact h⟩
        case defer d =>
          have hd : YieldsD P ops S oi v { a with defers := d :: a.defers } := hy.of_same rfl rfl
          refine ⟨keep _ hd _, ?_⟩
          rw [← Act.put_comm _ v undef p2, ← Act.put_defers]
          exact h
        case enter f args =>
          refine Calls.mono h fun e w'' he => ?_
          cases e with
          | returned u => exact ⟨keep a hy u, by rw [← move]; exact he⟩
          | panicked c => exact hQ _ _ _ he
          | outgrown => exact he
        case row row args => exact Rows.mono h fun u w'' he => ⟨keep a hy u, by rw [← move]; exact he⟩
      · cases x <;> simp only [Oper.upon] at h ⊢
        case panic u => exact hQ _ _ _ h
    · right
      exact ⟨by unfold Oper.asks at *; rw [execOp_put oj hsj a oi.dst v p1] at h1; exact h1, h2⟩
  · simp only [hw] at h ⊢
    exact ⟨keep a hy _, by rw [← move]; exact h⟩
/-- Whatever order is picked from here on, and however often is drawn between: behind each operation but number t S holds; t comes when all others have come. -/
def wpAnyD (P : Program) (md : Region.Mode) (ops : Array Oper) (Q : Exit → Act → World → Prop) (S : World → Prop) (t : Nat) : Nat → Array Bool → Act → World → Prop
  | 0, listed, a, w => Region.ready md ops listed = [] ∧ ∀ n, Q .normal a (w.drewN n)
  | fuel + 1, listed, a, w => (Region.ready md ops listed = [] → ∀ n, Q .normal a (w.drewN n)) ∧
      (∀ i ∈ Region.ready md ops listed, i ≠ t → ∀ n, Go.wpOp P ops Q i (fun a' w' => S w' ∧ wpAnyD P md ops Q S t fuel (listed.setIfInBounds i true) a' w') a (w.drewN n)) ∧
      (t ∈ Region.ready md ops listed → (∀ k, k < ops.size → k ≠ t → listed.getD k true = true) → ∀ n, Go.wpOp P ops Q t (fun a' w' => Q .normal a' w') a (w.drewN n))
theorem wpAnyD.on : ∀ {fuel : Nat} {listed : Array Bool} {a : Act} {w : World}, wpAnyD P md ops Q S t fuel listed a w → ∀ m, wpAnyD P md ops Q S t fuel listed a (w.drewN m)
  | 0, _, _, w, h, m => ⟨h.1, fun n => by rw [World.drewN_drewN]; exact h.2 _⟩
  | fuel + 1, _, _, w, h, m => ⟨fun h0 n => by rw [World.drewN_drewN]; exact h.1 h0 _, fun i hi ht n => by rw [World.drewN_drewN]; exact h.2.1 i hi ht _, fun h0 h1 n => by rw [World.drewN_drewN]; exact h.2.2 h0 h1 _⟩
theorem getD_two {l : Array Bool} {k : Nat} (hk : k < l.size) (h : l.getD k false = true) : l.getD k true = true := by simp [hk] at h ⊢; exact h
/-- What stands ahead of what has come has come. -/
structure Closed (md : Region.Mode) (ops : Array Oper) (listed : Array Bool) : Prop where
  size : listed.size = ops.size
  ahead : ∀ j oj, ops[j]? = some oj → listed.getD j false = true → ∀ e ∈ oj.after, Region.binds md e = true → listed.getD e.on false = true
theorem Closed.set {i : Nat} {listed : Array Bool} (h : Closed md ops listed) (hi : i ∈ Region.ready md ops listed) : Closed md ops (listed.setIfInBounds i true) := by
  obtain ⟨_, oi, hoi, hall⟩ := mem_ready.1 hi
  have grow : ∀ k, listed.getD k false = true → (listed.setIfInBounds i true).getD k false = true := fun k hk => by
    by_cases e : i = k
    · subst e
      rcases Nat.lt_or_ge i listed.size with h' | h'
      · simp [h']
      · simp [Array.getElem?_eq_none h'] at hk
    · rw [getD_set_ne false e]; exact hk
  refine ⟨by simp [h.size], fun j oj hj hl e he hb => ?_⟩
  by_cases hij : i = j
  · subst hij
    obtain rfl : oj = oi := Option.some.inj (hj.symm.trans hoi)
    exact grow _ (hall e he hb)
  · rw [getD_set_ne false hij] at hl
    exact grow _ (h.ahead j oj hj hl e he hb)
/-- When t may come all others have. -/
theorem Closed.last {listed : Array Bool} (h : Closed md ops listed) (hs : Region.sinkB md ops t = true) (ht : t + 1 = ops.size) (hr : t ∈ Region.ready md ops listed) : ∀ k, k < ops.size → k ≠ t → listed.getD k true = true := by
  obtain ⟨_, ot, hot, hall⟩ := mem_ready.1 hr
  have key : ∀ d k, k + d = t → k ≠ t → listed.getD k false = true := by
    intro d
    induction d using Nat.strongRecOn with
    | _ d ih =>
      intro k hk hkt
      unfold Region.sinkB at hs
      rw [List.all_eq_true] at hs
      have h1 := hs k (List.mem_range.2 (by omega))
      rw [List.any_eq_true] at h1
      obtain ⟨j, hj, h2⟩ := h1
      rw [List.mem_range] at hj
      rw [Bool.and_eq_true, decide_eq_true_eq] at h2
      obtain ⟨oj, hoj, e, he, hb, hon⟩ := Region.waitsFor_spec h2.2
      by_cases hjt : j = t
      · subst hjt
        obtain rfl : oj = ot := Option.some.inj (hoj.symm.trans hot)
        rw [← hon]; exact hall e he hb
      · have := ih (t - j) (by omega) j (by omega) hjt
        rw [← hon]; exact h.ahead j oj hoj this e he hb
  intro k hk hkt
  exact getD_two (by rw [h.size]; exact hk) (key (t - k) k (by omega) hkt)
theorem wpAny_of_D (hs : Region.sinkB md ops t = true) (ht : t + 1 = ops.size) : ∀ (fuel : Nat) (listed : Array Bool) (a : Act) (w : World), Closed md ops listed → wpAnyD P md ops Q S t fuel listed a w → wpAny P md ops Q fuel listed a w
  | 0, _, _, _, _, h => ⟨h.1, h.2 0⟩
  | fuel + 1, listed, a, w, hc, h => by
    refine ⟨fun h0 => h.1 h0 0, fun i hi => ?_⟩
    by_cases e : i = t
    · subst e
      have hall := hc.last hs ht hi
      have hnone : Region.ready md ops (listed.setIfInBounds i true) = [] := by
        rw [List.eq_nil_iff_forall_not_mem]
        intro k hk
        obtain ⟨hun, ok, hok, _⟩ := mem_ready.1 hk
        have hks : k < ops.size := (Array.getElem?_eq_some_iff.1 hok).1
        by_cases e : i = k
        · subst e
          simp [show i < listed.size by rw [hc.size]; exact hks] at hun
        · rw [getD_set_ne true e, hall k hks (Ne.symm e)] at hun
          cases hun
      refine wpOp_mono (fun a' w' h' => ?_) (h.2.2 hi hall 0)
      cases fuel with
      | zero => exact ⟨hnone, h'⟩
      | succ fuel => exact ⟨fun _ => h', by rw [hnone]; simp⟩
    · exact wpOp_mono (fun a' w' h' => wpAny_of_D hs ht fuel _ a' w' (hc.set hi) h'.2) (h.2.1 i hi e 0)
theorem wpAnyD_first {i : Nat} {oi : Oper} {v : Value} (hi : ops[i]? = some oi) (hit : i ≠ t) (hsel : ∀ (j : Nat) (o : Oper) cs b, ops[j]? = some o → o.op ≠ .select cs b)
    (hQ : ∀ c a w, Q (.panic c) (a.put oi.dst v) w → Q (.panic c) a w) (hSd : ∀ w n, S w → S (w.drewN n)) :
    ∀ (fuel : Nat) (listed : Array Bool) (a : Act) (w : World),
      (∀ j oj, ops[j]? = some oj → j ≠ i → listed.getD j true = false → (∀ e ∈ oj.after, Region.binds md e = true → e.on ≠ i) → oi.apart ops oj = true) →
      i ∈ Region.ready md ops listed → YieldsD P ops S oi v a → S w →
      wpAnyD P md ops Q S t fuel (listed.setIfInBounds i true) (a.put oi.dst v) w → wpAnyD P md ops Q S t (fuel + 1) listed a w := by
  intro fuel
  induction fuel with
  | zero =>
    intro listed a w _ hr hy hS H
    refine ⟨fun h => (by rw [h] at hr; cases hr), fun j hj _ n => ?_, fun htr hall => ?_⟩
    · by_cases e : j = i
      · subst e; exact hy.wpOp hi (hSd w n hS) fun m => ⟨hSd _ m (hSd w n hS), (H.on n).on m⟩
      · have := ready_mono hj e
        rw [H.1] at this
        cases this
    · have := (mem_ready.1 hr).1
      rw [hall i (Array.getElem?_eq_some_iff.1 hi).1 hit] at this
      cases this
  | succ fuel ih =>
    intro listed a w hfree hr hy hS H
    refine ⟨fun h => (by rw [h] at hr; cases hr), fun j hj hjt n => ?_, fun htr hall => ?_⟩
    · by_cases e : j = i
      · subst e; exact hy.wpOp hi (hSd w n hS) fun m => ⟨hSd _ m (hSd w n hS), (H.on n).on m⟩
      · have h1 := H.2.1 j (ready_mono hj e) hjt n
        obtain ⟨hjun, oj, hoj, hall⟩ := mem_ready.1 hj
        have hnot : ∀ k ∈ oj.after, Region.binds md k = true → k.on ≠ i := fun k hk hb heq => by
          have g1 := hall k hk hb
          have g0 := (mem_ready.1 hr).1
          rw [heq] at g1
          rcases Nat.lt_or_ge i listed.size with h' | h'
          · simp [h'] at g0 g1; rw [g0] at g1; cases g1
          · simp [Array.getElem?_eq_none h'] at g1
        have h2 := wpOp_putD hoj (hfree j oj hoj e hjun hnot) (fun cs b => hsel i oi cs b hi) (fun cs b => hsel j oj cs b hoj) hQ hy h1
        have hri := ready_mono hr (Ne.symm e)
        refine wpOp_mono (fun a' w' h3 => ?_) h2
        refine ⟨h3.2.1, ih (listed.setIfInBounds j true) a' w' (fun k ok hk hki hun hno => ?_) hri h3.1 h3.2.1 ?_⟩
        · refine hfree k ok hk hki ?_ hno
          by_cases hjk : j = k
          · subst hjk; exact hjun
          · rw [getD_set_ne true hjk] at hun; exact hun
        · rw [Array.setIfInBounds_comm _ _ e]
          exact h3.2.2
    · have := (mem_ready.1 hr).1
      rw [hall i (Array.getElem?_eq_some_iff.1 hi).1 hit] at this
      cases this
/-- The beginning, the taking of one operation, and the last one. -/
theorem wp_region_D {id : Nat} {a : Act} {w : World} (t : Nat) (S : World → Prop) (hm : P.follows .mixedOrders = true) (hs : Region.sinkB .any ops t = true) (ht : t + 1 = ops.size)
    (h : wpAnyD P .any ops Q S t ops.size (Array.replicate ops.size false) a w.drew) : (Code.region id ops true).wp P Q a w := by
  refine wp_region_any hm (wpAny_of_D hs ht _ _ _ _ ⟨by simp, fun j oj _ hl => ?_⟩ h)
  rw [getD_replicate_false] at hl; cases hl
theorem wpAnyD_take {i : Nat} {oi : Oper} {v : Value} {fuel : Nat} {listed : Array Bool} {a : Act} {w : World} (hi : ops[i]? = some oi) (hit : (i == t) = false) (hs : Region.noSelect ops = true) (hf : Region.free md ops listed i = true) (hr : (Region.ready md ops listed).contains i = true)
    (hQ : ∀ c a w, Q (.panic c) (a.put oi.dst v) w → Q (.panic c) a w) (hSd : ∀ w n, S w → S (w.drewN n)) (hy : YieldsD P ops S oi v a) (hS : S w)
    (h : wpAnyD P md ops Q S t fuel (listed.setIfInBounds i true) (a.put oi.dst v) w) : wpAnyD P md ops Q S t (fuel + 1) listed a w :=
  wpAnyD_first hi (by simpa using hit) (Region.noSelect_spec hs) hQ hSd fuel listed a w (Region.free_spec hi hf) (by simpa using hr) hy hS h
theorem wpAnyD_last {fuel : Nat} {listed : Array Bool} {a : Act} {w : World} (hr : Region.ready md ops listed = [t]) (h : ∀ n, Go.wpOp P ops Q t (fun a' w' => Q .normal a' w') a (w.drewN n)) : wpAnyD P md ops Q S t (fuel + 1) listed a w := by
  refine ⟨fun h0 => (by rw [h0] at hr; cases hr), fun i hi hit => ?_, fun _ _ => h⟩
  rw [hr, List.mem_singleton] at hi
  exact absurd hi hit
theorem wpOp_one {i : Nat} {o : Oper} {K : Act → World → Prop} {a : Act} {w : World} (hi : ops[i]? = some o) (hw : Region.wanted o (yielded ops a.tmps) = true) (h : Oper.wp P o a w K Q) : Go.wpOp P ops Q i K a w := by
  unfold Go.wpOp
  simp only [hi, hw, if_true]
  exact Or.inl h
end Go.Proofs.Ytaajfekolokaoaa
