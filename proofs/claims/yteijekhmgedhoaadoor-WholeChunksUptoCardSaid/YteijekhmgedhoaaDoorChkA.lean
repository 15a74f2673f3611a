/- Chunks behind a place at which a chunk ends; a map of the places at which chunks end. -/
import Derived.Test.YteijekhmgedhoaaDoorGearI
import Derived.Test.YteijekhmgedhoaaDoorShaP
import Derived.Maps.Own
import Derived.Maps.OwnOps
import Derived.Maps.Views
namespace Go.Proofs.YteijekhmgedhoaaDoor
open Go.RowKit Go.Maps

/-- Where chunk i ends. -/
def posN (X : List (List UInt8)) (i : Nat) : Nat := (X.take i).flatten.length
theorem posN_zero (X : List (List UInt8)) : posN X 0 = 0 := rfl
theorem posN_next {X : List (List UInt8)} {i : Nat} {c : List UInt8} (h : X[i]? = some c) : posN X (i + 1) = posN X i + c.length := by
  unfold posN
  rw [List.take_add_one, h]
  simp
theorem posN_le (X : List (List UInt8)) (i : Nat) : posN X i ≤ X.flatten.length := by
  unfold posN
  conv => rhs; rw [← List.take_append_drop i X, List.flatten_append, List.length_append]
  omega
/-- What is left of the chunks is what the rest is cut into. -/
theorem chunks_drop (least most bits : Nat) : ∀ (i : Nat) (l : List UInt8), i ≤ (chunksL least most bits l).length → (chunksL least most bits l).drop i = chunksL least most bits (l.drop (posN (chunksL least most bits l) i))
  | 0, l, _ => by rw [posN_zero]; simp
  | i + 1, l, h => by
    by_cases hl : l = []
    · subst hl; rw [chunksL_nil] at h; simp at h
    · have h1 := nextLen_le least most bits l hl
      rw [chunksL_cons hl] at h ⊢
      rw [List.length_cons] at h
      have ih := chunks_drop least most bits i (l.drop (nextLen least most bits l)) (by omega)
      rw [List.drop_succ_cons, ih, List.drop_drop]
      have e : posN (l.take (nextLen least most bits l) :: chunksL least most bits (l.drop (nextLen least most bits l))) (i + 1) = nextLen least most bits l + posN (chunksL least most bits (l.drop (nextLen least most bits l))) i := by
        unfold posN
        rw [List.take_succ_cons, List.flatten_cons, List.length_append, List.length_take, Nat.min_eq_left h1]
      rw [e]
/-- Behind a place of the rest at which both end a chunk the chunks are the same. -/
theorem chunks_same (a b r : List UInt8) (i k : Nat) (hi : i ≤ (chunksL 2 40 3 (a ++ r)).length) (hk : k ≤ (chunksL 2 40 3 (b ++ r)).length) (z : Nat) (h1 : posN (chunksL 2 40 3 (a ++ r)) i = a.length + z) (h2 : posN (chunksL 2 40 3 (b ++ r)) k = b.length + z) :
    (chunksL 2 40 3 (a ++ r)).drop i = (chunksL 2 40 3 (b ++ r)).drop k := by
  rw [chunks_drop 2 40 3 i _ hi, chunks_drop 2 40 3 k _ hk, h1, h2]
  have e : ∀ x : List UInt8, (x ++ r).drop (x.length + z) = r.drop z := fun x => by
    rw [List.drop_append, List.drop_of_length_le (by omega)]; simp
  rw [e, e]
/-- The number of the chunk that ends at a place, of the first m; 0: none. -/
def endsN' (X : List (List UInt8)) (p0 : Int) : Nat → Int → Nat
  | 0, _ => 0
  | m + 1, z => if z = p0 + (posN X (m + 1) : Int) then m + 1 else endsN' X p0 m z
theorem endsN'_is (X : List (List UInt8)) (p0 : Int) : ∀ (m : Nat) (z : Int), endsN' X p0 m z ≠ 0 → endsN' X p0 m z ≤ m ∧ z = p0 + (posN X (endsN' X p0 m z) : Int)
  | 0, _, h => absurd rfl h
  | m + 1, z, h => by
    unfold endsN' at h ⊢
    by_cases e : z = p0 + (posN X (m + 1) : Int)
    · rw [if_pos e]; exact ⟨Nat.le_refl _, e⟩
    · rw [if_neg e] at h ⊢
      have := endsN'_is X p0 m z h
      exact ⟨by omega, this.2⟩
theorem endsN'_le (X : List (List UInt8)) (p0 : Int) : ∀ (m : Nat) (z : Int), endsN' X p0 m z ≤ m
  | 0, _ => Nat.le_refl _
  | m + 1, z => by
    unfold endsN'
    split
    · exact Nat.le_refl _
    · have := endsN'_le X p0 m z; omega
/-- A map of the call's own: at each place the number of the chunk that ends there. -/
structure EndM (w : World) (B n : Nat) (D : DataW Unit) (X : List (List UInt8)) (p0 : Int) (m : Nat) : Prop where
  own : w.ownsMap Tryd.prog 3 (plainElem Tryd.prog 3) B n D
  len : n = m
  tidy : Tidy D
  at_ : ∀ z : Int, D.atKey (.int .i64 z) (.lit (.int .i64 0)) = .lit (.int .i64 (endsN' X p0 m z : Nat))
theorem keyLawI : Keyed Tryd.prog 3 := int_keyed Tryd.underlying3
theorem zeroIntI (w : World) : (zeroValue 3).run Tryd.prog w = .ok (.int .i64 0) w := by kernel_rfl
theorem EndM.made (w : World) (X : List (List UInt8)) (p0 : Int) : EndM (w.alloc (.map #[] 0)) w.heap.size 0 (.map []) X p0 0 :=
  ⟨World.ownsMap_made _ _ _ _, rfl, tidy_empty, fun _ => rfl⟩
theorem EndM.kept {w w' : World} {B n : Nat} {D : DataW Unit} {X : List (List UInt8)} {p0 : Int} {m : Nat} (h : EndM w B n D X p0 m) (hk : w'.heap[B]? = w.heap[B]?) : EndM w' B n D X p0 m := by
  refine ⟨?_, h.len, h.tidy, h.at_⟩
  obtain ⟨es, clock, hb, F, hs, hD⟩ := h.own
  exact ⟨es, clock, hk.trans hb, F, hs, hD⟩
theorem EndM.lt {w : World} {B n : Nat} {D : DataW Unit} {X : List (List UInt8)} {p0 : Int} {m : Nat} (h : EndM w B n D X p0 m) : B < w.heap.size := by
  obtain ⟨es, clock, hb, _⟩ := h.own
  exact (Array.getElem?_eq_some_iff.1 hb).1
theorem EndM.put {w w' : World} {B n : Nat} {D : DataW Unit} {X : List (List UInt8)} {p0 : Int} {m : Nat} (h : EndM w B n D X p0 m) (ho : w'.ownsMap Tryd.prog 3 (plainElem Tryd.prog 3) B (n + 1) (D.put (.int .i64 (p0 + (posN X (m + 1) : Int))) (.lit (.int .i64 ((m + 1 : Nat) : Int))))) :
    EndM w' B (n + 1) (D.put (.int .i64 (p0 + (posN X (m + 1) : Int))) (.lit (.int .i64 ((m + 1 : Nat) : Int)))) X p0 (m + 1) := by
  have hk : WideAt.IsKeyLit (.int .i64 (p0 + (posN X (m + 1) : Int))) := trivial
  have hm := h.tidy.isMap
  refine ⟨ho, by rw [h.len], h.tidy.put hk _, fun z => ?_⟩
  by_cases e : z = p0 + (posN X (m + 1) : Int)
  · subst e
    rw [atKey_put_same hm hk]
    unfold endsN'
    rw [if_pos rfl]
  · rw [atKey_put_other (fun e2 => e (by injection e2)), h.at_ z]
    conv => rhs; unfold endsN'
    rw [if_neg e]
theorem cv_of' {X : DataW Unit} {a b : Int} (h1 : X = .lit (.int .i64 a)) (h2 : X = .lit (.int .i64 b)) : a = b := by
  have := h1.symm.trans h2
  injection this with this
  injection this
theorem wrong_no : wrongN ((2 : Nat) : Int) ((40 : Nat) : Int) ((3 : Nat) : Int) = false := by decide
theorem ChunksC.at' {S : Nat → Prop} {w : World} {a : Option Addr} {c : Nat} {ls : List (List UInt8)} (h : ChunksC S w (.slice a ls.length c) ls) (hn : 0 < ls.length) :
    ∃ ad, a = some ad ∧ S ad.block ∧ ls.length ≤ c ∧ c ≤ 9223372036854775807 ∧ ∀ j l, ls[j]? = some l → ∃ av cv, w.cell? (ad.add j) = some (.slice av l.length cv) ∧ BytesC S w (.slice av l.length cv) l := by
  rcases h with ⟨_, e⟩ | ⟨ad, cap, e, h1, h2, h3, h4⟩
  · rw [e] at hn; simp at hn
  · injection e with e1 e2 e3
    subst e1 e3
    unfold maxLen at h2
    refine ⟨ad, rfl, h3.resolve_left (fun e => by rw [e] at hn; simp at hn), h1, h2, fun j l hj => ?_⟩
    obtain ⟨vj, e4, e5⟩ := h4 j l hj
    obtain ⟨av, cv, rfl⟩ := e5.shape
    exact ⟨av, cv, e4, e5⟩
theorem chunks_two (w : World) (va vr : Value) (a r : List UInt8) (ha : BytesC (fun k => k < w.heap.size) w va a) (hr : BytesC (fun k => k < w.heap.size) w vr r) :
    ChunksC (fun k => k < w.heap.size + 1) (w.alloc (.cells #[va, vr] 22)) (.slice (some ⟨w.heap.size, 0, none⟩) 2 2) [a, r] := by
  refine Or.inr ⟨_, 2, rfl, Nat.le_refl _, by unfold maxLen; simp, Or.inr (Nat.lt_succ_self _), fun j l hj => ?_⟩
  have hk : ∀ v x, BytesC (fun k => k < w.heap.size) w v x → BytesC (fun k => k < w.heap.size + 1) (w.alloc (.cells #[va, vr] 22)) v x := fun v x h => h.kept (fun k hk => ⟨Nat.lt_succ_of_lt hk, Below.heap_alloc w _ k hk⟩)
  match j, hj with
  | 0, hj =>
    injection hj with hj; subst hj
    exact ⟨va, by rw [Addr.add_mid, cell_of_row _ _ _ _ _ _ (new_five w _ _)]; rfl, hk _ _ ha⟩
  | 1, hj =>
    injection hj with hj; subst hj
    exact ⟨vr, by rw [Addr.add_mid, cell_of_row _ _ _ _ _ _ (new_five w _ _)]; rfl, hk _ _ hr⟩
theorem chunks_one (w : World) (va : Value) (a : List UInt8) (ha : BytesC (fun k => k < w.heap.size) w va a) :
    ChunksC (fun k => k < w.heap.size + 1) (w.alloc (.cells #[va] 22)) (.slice (some ⟨w.heap.size, 0, none⟩) 1 1) [a] := by
  refine Or.inr ⟨_, 1, rfl, Nat.le_refl _, by unfold maxLen; simp, Or.inr (Nat.lt_succ_self _), fun j l hj => ?_⟩
  match j, hj with
  | 0, hj =>
    injection hj with hj; subst hj
    exact ⟨va, by rw [Addr.add_mid, cell_of_row _ _ _ _ _ _ (new_five w _ _)]; rfl, ha.kept (fun k hk => ⟨Nat.lt_succ_of_lt hk, Below.heap_alloc w _ k hk⟩)⟩
theorem new_mark' (w : World) (cs : Array Value) (t : TypeId) (fr : Nat × Nat) : (w.alloc (.cells cs t fr)).heap[w.heap.size]? = some (.cells cs t fr) := by
  show (w.heap.push _)[w.heap.size]? = _
  rw [Array.getElem?_push, if_pos rfl]
theorem abc_c (w : World) : BytesC (fun k => k < w.heap.size + 1) (w.alloc (.cells #[.int .u8 97, .int .u8 98, .int .u8 99] 5 (3, 4))) (.slice (some ⟨w.heap.size, 0, none⟩) 3 3) [97, 98, 99] := by
  refine Or.inr ⟨⟨w.heap.size, 0, none⟩, 3, rfl, by decide, by unfold maxLen; omega, Or.inr (Nat.lt_succ_self _), fun i u hi => ?_⟩
  rw [Addr.add_mid, cell_of_row _ _ _ _ _ _ (new_mark' w _ _ _)]
  simpa [bv] using hi
theorem chunks_count (least most bits : Nat) (l : List UInt8) : (chunksL least most bits l).length ≤ l.length := by
  have h := congrArg List.length (chunks_len least most bits l.length l (Nat.le_refl _))
  rw [List.length_map] at h
  rw [h]
  exact cut_count least most bits l.length l (Nat.le_refl _)
end Go.Proofs.YteijekhmgedhoaaDoor
