/- What is left of three snapshots behind a path, as functions. -/
import Derived.Test.YtjlpdoppnhcjoaaDoorJnJ
namespace Go.Proofs.YtjlpdoppnhcjoaaDoor
open Go.RowKit Go.Lib
def headF (l : List FileN) : FileN := l.getD 0 noFile
def hasN (l : Nat → List FileN) (p : List UInt8) (i : Nat) : Bool := decide ((l i).length ≠ 0) && decide (headP (l i) = p)
def restN (l : Nat → List FileN) (p : List UInt8) (i : Nat) : List FileN := if hasN l p i = true then (l i).drop 1 else l i
/-- The first k of the lists looked at. -/
def restK (l : Nat → List FileN) (p : List UInt8) (k i : Nat) : List FileN := if i < k then restN l p i else l i
def hasK (l : Nat → List FileN) (p : List UInt8) (k i : Nat) : Bool := decide (i < k) && hasN l p i
def idK (l : Nat → List FileN) (p : List UInt8) (k i : Nat) : Nat → UInt8 := if hasK l p k i = true then (headF (l i)).id else fun _ => 0
def stK (l : Nat → List FileN) (p : List UInt8) (k i : Nat) : Nat := if hasK l p k i = true then (headF (l i)).stamp else 0
def outK (l : Nat → List FileN) (p : List UInt8) (k : Nat) : OutN := { noOut with path := p, has := hasK l p k, ids := idK l p k }
section
variable {l : Nat → List FileN} {p : List UInt8} {k : Nat}
theorem hasK_zero : hasK l p 0 = fun _ => false := by funext i; unfold hasK; rw [decide_eq_false (by omega)]; rfl
theorem outK_zero : outK l p 0 = { noOut with path := p } := by
  unfold outK
  have e : idK l p 0 = fun _ _ => 0 := by funext i; unfold idK; rw [hasK_zero, if_neg (by simp)]
  rw [e, hasK_zero]; rfl
theorem stK_zero : stK l p 0 = zst := by funext i; unfold stK; rw [hasK_zero, if_neg (by simp)]; rfl
theorem hasK_step (i : Nat) : hasK l p (k + 1) i = if i = k then hasN l p k else hasK l p k i := by
  unfold hasK
  by_cases e : i = k
  · subst e; rw [if_pos rfl, decide_eq_true (by omega), Bool.true_and]
  · rw [if_neg e]
    by_cases h : i < k
    · rw [decide_eq_true h, decide_eq_true (show i < k + 1 by omega)]
    · rw [decide_eq_false h, decide_eq_false (show ¬ i < k + 1 by omega)]
theorem hasK_at : hasK l p k k = false := by unfold hasK; rw [decide_eq_false (by omega)]; rfl
theorem outK_yes (h : hasN l p k = true) : outK l p (k + 1) = { outK l p k with has := fun j => if j = k then true else (outK l p k).has j, ids := fun j => if j = k then (headF (l k)).id else (outK l p k).ids j } := by
  have e1 : hasK l p (k + 1) = fun j => if j = k then true else hasK l p k j := by funext j; rw [hasK_step, h]
  have e2 : idK l p (k + 1) = fun j => if j = k then (headF (l k)).id else idK l p k j := by
    funext j; unfold idK; rw [hasK_step, h]
    by_cases e : j = k
    · subst e; rw [if_pos rfl, if_pos rfl, if_pos rfl]
    · rw [if_neg e, if_neg e]
  unfold outK; rw [e1, e2]
theorem stK_yes (h : hasN l p k = true) : stK l p (k + 1) = fun j => if j = k then (headF (l k)).stamp else stK l p k j := by
  funext j; unfold stK; rw [hasK_step, h]
  by_cases e : j = k
  · subst e; rw [if_pos rfl, if_pos rfl, if_pos rfl]
  · rw [if_neg e, if_neg e]
theorem hasK_no (h : hasN l p k = false) : hasK l p (k + 1) = hasK l p k := by
  funext j; rw [hasK_step, h]
  by_cases e : j = k
  · subst e; rw [if_pos rfl, hasK_at]
  · rw [if_neg e]
theorem outK_no (h : hasN l p k = false) : outK l p (k + 1) = outK l p k := by unfold outK idK; rw [hasK_no h]
theorem stK_no (h : hasN l p k = false) : stK l p (k + 1) = stK l p k := by funext i; unfold stK; rw [hasK_no h]
theorem restK_zero : restK l p 0 = l := by funext i; unfold restK; rw [if_neg (by omega)]
theorem restK_at : restK l p k k = l k := by unfold restK; rw [if_neg (by omega)]
theorem restK_yes (h : hasN l p k = true) : restK l p (k + 1) = fun j => if j = k then (l k).drop 1 else restK l p k j := by
  funext j; unfold restK
  by_cases e : j = k
  · subst e; rw [if_pos (by omega), if_pos rfl]; unfold restN; rw [if_pos h]
  · rw [if_neg e]
    by_cases h2 : j < k
    · rw [if_pos h2, if_pos (by omega)]
    · rw [if_neg h2, if_neg (by omega)]
theorem restK_no (h : hasN l p k = false) : restK l p (k + 1) = restK l p k := by
  funext j; unfold restK
  by_cases e : j = k
  · subst e; rw [if_pos (by omega), if_neg (by omega)]; unfold restN; rw [if_neg (by rw [h]; decide)]
  · by_cases h2 : j < k
    · rw [if_pos h2, if_pos (by omega)]
    · rw [if_neg h2, if_neg (by omega)]
theorem hasN_len (h : hasN l p k = true) : (l k).length ≠ 0 ∧ headP (l k) = p := by
  unfold hasN at h
  rw [Bool.and_eq_true] at h
  exact ⟨of_decide_eq_true h.1, of_decide_eq_true h.2⟩
theorem hasN_zero (h : (l k).length = 0) : hasN l p k = false := by unfold hasN; rw [decide_eq_false (by simpa using h)]; rfl
theorem hasN_dec (h : (l k).length ≠ 0) : hasN l p k = decide (headP (l k) = p) := by unfold hasN; rw [decide_eq_true h, Bool.true_and]
end
theorem flatten_drop {sz : Nat} : ∀ (css : List (List Value)) (n : Nat), (∀ c ∈ css, c.length = sz) → (css.drop n).flatten = css.flatten.drop (n * sz)
  | css, 0, _ => by rw [Nat.zero_mul, List.drop_zero, List.drop_zero]
  | [], n + 1, _ => by simp
  | c :: css, n + 1, h => by
    have hc := h c List.mem_cons_self
    rw [List.drop_succ_cons, flatten_drop css n (fun x hx => h x (List.mem_cons_of_mem _ hx)), List.flatten_cons, Nat.add_mul, Nat.one_mul, Nat.add_comm, ← hc, ← List.drop_drop, List.drop_left]
/-- What is left of a slice of records behind the first ones. -/
theorem RowsC.cutL {E : Type} {rel : (Nat → Prop) → World → E → List Value → Prop} {sz : Nat} {S : Nat → Prop} {w : World} {a : Option Addr} {c : Nat} {es : List E} (h : RowsC rel sz S w (.slice a es.length c) es) {P : Program} {t : TypeId} (ht : P.underlying t = some (.slice (P.elem t))) (hs : ∀ W, (sizeOf (P.elem t)).run P W = .ok sz W) {lo : Nat} (h1 : lo ≤ es.length) :
    ∃ a' c', (∀ W, (Instr.sliceAt t (.slice a es.length c) (some (.int .i64 (lo : Int))) none none).run P W = .ok (.slice a' (es.drop lo).length c') W) ∧ RowsC rel sz S w (.slice a' (es.drop lo).length c') (es.drop lo) := by
  obtain ⟨css, k1, k2, k3, k4⟩ := h
  obtain ⟨a', c', hr, hc⟩ := k3.cutL ht hs h1
  have e : (es.drop lo).length = es.length - lo := by simp
  refine ⟨a', c', fun W => by rw [e]; exact hr W, css.drop lo, by rw [List.length_drop, e, k1], fun cs hm => k2 cs (List.mem_of_mem_drop hm), by rw [e, flatten_drop css lo k2]; exact hc, fun j x cs hx hcs => ?_⟩
  rw [List.getElem?_drop] at hx hcs
  exact k4 _ x cs hx hcs
theorem und_files : Tryd.prog.underlying 22 = some (.slice (Tryd.prog.elem 22)) := by kernel_rfl
theorem size_files (W : World) : (sizeOf (Tryd.prog.elem 22)).run Tryd.prog W = .ok n34 W := by kernel_rfl
/-- The tail of what is left of one snapshot. -/
theorem FilesC.tail {S : Nat → Prop} {w : World} {a : Option Addr} {c : Nat} {l : List FileN} (h : FilesC S w (.slice a l.length c) l) (hn : l.length ≠ 0) :
    ∃ a' c', (∀ W, (Instr.sliceAt 22 (.slice a l.length c) (some (.int .i64 1)) none none).run Tryd.prog W = .ok (.slice a' (l.drop 1).length c') W) ∧ FilesC S w (.slice a' (l.drop 1).length c') (l.drop 1) :=
  RowsC.cutL h und_files size_files (lo := 1) (by omega)
end Go.Proofs.YtjlpdoppnhcjoaaDoor
