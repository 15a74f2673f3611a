/- Records as functions of bytes: mathematics. What is written is read, and what is read is written: mathematics of records. -/
import Derived.Test.YtdolonkeanlaoaaDoorGrAbc
import Derived.Test.YtdolonkeanlaoaaDoorPathAll
namespace Go.Proofs.YtdolonkeanlaoaaDoor
open Go.RowKit

def Val.kind : Val → Int | .mk k _ _ _ _ => k
def Val.num : Val → Nat | .mk _ u _ _ _ => u
def Val.bytes : Val → List UInt8 | .mk _ _ b _ _ => b
def Val.real : Val → Nat | .mk _ _ _ f _ => f
def Val.list : Val → List Val | .mk _ _ _ _ l => l
def numV (n : Nat) : Val := .mk 0 n [] 0 []
def textV (l : List UInt8) : Val := .mk 1 0 l 0 []
def realV (f : Nat) : Val := .mk 2 0 [] f []
def rowV (l : List Val) : Val := .mk 3 0 [] 0 l
def andR {α β : Type} (r : Except Int α) (f : α → Except Int β) : Except Int β :=
  match r with
  | .ok x => f x
  | .error c => .error c
theorem andR_ok {α β : Type} {r : Except Int α} {f : α → Except Int β} {y : β} (h : andR r f = .ok y) : ∃ x, r = .ok x ∧ f x = .ok y := by
  cases r with
  | ok x => exact ⟨x, rfl, h⟩
  | error c => cases h
theorem andR_of {α β : Type} {r : Except Int α} {f : α → Except Int β} {x : α} (h : r = .ok x) : andR r f = f x := by rw [h]; rfl
theorem andR_bad {α β : Type} {r : Except Int α} {f : α → Except Int β} {c : Int} (h : r = .error c) : andR r f = .error c := by rw [h]; rfl
def textR (most : Nat) (v : Val) : Except Int (List UInt8) := if v.kind ≠ 1 then .error 91 else if most < v.bytes.length then .error 2 else .ok v.bytes
def nameR (v : Val) : Except Int (List UInt8) := if v.kind ≠ 1 ∨ v.bytes.length ≠ 32 then .error 91 else .ok v.bytes
def numberR (most : Nat) (v : Val) : Except Int Nat := if v.kind ≠ 0 then .error 91 else if most < v.num then .error 2 else .ok v.num
def stampR (v : Val) : Except Int Nat := if v.kind ≠ 2 then .error 91 else .ok v.real
def listR (most : Nat) (v : Val) : Except Int (List Val) := if v.kind ≠ 3 then .error 91 else if most < v.list.length then .error 2 else .ok v.list
def eachR {α : Type} (g : Val → Except Int α) : List Val → Except Int (List α)
  | [] => .ok []
  | x :: r => andR (g x) fun y => andR (eachR g r) fun ys => .ok (y :: ys)
theorem eachR_len {α : Type} {g : Val → Except Int α} : ∀ {l : List Val} {ys : List α}, eachR g l = .ok ys → ys.length = l.length
  | [], ys, h => by simp only [eachR] at h; injection h with h; subst h; rfl
  | x :: r, ys, h => by
    simp only [eachR] at h
    obtain ⟨y, _, h⟩ := andR_ok h
    obtain ⟨zs, h2, h⟩ := andR_ok h
    injection h with h
    subst h
    simp [eachR_len h2]
theorem eachR_snoc {α : Type} {g : Val → Except Int α} {x : Val} : ∀ {l : List Val} {ys : List α}, eachR g l = .ok ys → eachR g (l ++ [x]) = andR (g x) fun y => .ok (ys ++ [y])
  | [], ys, h => by
    simp only [eachR] at h
    injection h with h
    subst h
    simp only [List.nil_append, eachR]
    cases g x <;> rfl
  | z :: r, ys, h => by
    simp only [eachR] at h
    obtain ⟨y, h1, h⟩ := andR_ok h
    obtain ⟨zs, h2, h⟩ := andR_ok h
    injection h with h
    subst h
    simp only [List.cons_append, eachR, h1, eachR_snoc h2]
    cases g x <;> rfl
theorem eachR_cut {α : Type} {g : Val → Except Int α} {c : Int} : ∀ {l m : List Val}, eachR g l = .error c → eachR g (l ++ m) = .error c
  | [], m, h => by simp only [eachR] at h; cases h
  | z :: r, m, h => by
    simp only [List.cons_append, eachR] at h ⊢
    cases hz : g z with
    | error d => rw [hz] at h; exact h
    | ok y =>
      rw [hz] at h
      simp only [andR] at h ⊢
      cases hr : eachR g r with
      | error d => rw [hr] at h; rw [eachR_cut hr]; exact h
      | ok ys => rw [hr] at h; cases h
/-- A round of a loop over values: what the whole is, by the next value. -/
theorem eachR_next {α : Type} {g : Val → Except Int α} {l : List Val} {k : Nat} {ys : List α} {x : Val} (h : eachR g (l.take k) = .ok ys) (hx : l[k]? = some x) :
    (∀ y, g x = .ok y → eachR g (l.take (k + 1)) = .ok (ys ++ [y])) ∧ (∀ c, g x = .error c → eachR g l = .error c) := by
  have e : l.take (k + 1) = l.take k ++ [x] := by
    have hk := (List.getElem?_eq_some_iff.1 hx).1
    rw [List.take_succ_eq_append_getElem hk]
    rw [List.getElem?_eq_getElem hk] at hx
    injection hx with hx; rw [hx]
  refine ⟨fun y hy => ?_, fun c hc => ?_⟩
  · rw [e, eachR_snoc h, hy]; rfl
  · have h2 : eachR g (l.take (k + 1)) = .error c := by rw [e, eachR_snoc h, hc]; rfl
    have := eachR_cut (m := l.drop (k + 1)) h2
    rwa [List.take_append_drop] at this
theorem eachR_mem {α : Type} {g : Val → Except Int α} {l : List Val} {ys : List α} (h : eachR g l = .ok ys) : ∀ (i : Nat) (x : Val), l[i]? = some x → ∃ y, ys[i]? = some y ∧ g x = .ok y := by
  induction l generalizing ys with
  | nil => intro i x hx; simp at hx
  | cons z r ih =>
    simp only [eachR] at h
    obtain ⟨y, h1, h⟩ := andR_ok h
    obtain ⟨zs, h2, h⟩ := andR_ok h
    injection h with h
    subst h
    intro i x hx
    cases i with
    | zero => simp at hx; subst hx; exact ⟨y, rfl, h1⟩
    | succ i => simpa using ih h2 i x (by simpa using hx)
theorem eachR_map {α : Type} {g : Val → Except Int α} {f : α → Val} {l : List α} (h : ∀ x ∈ l, g (f x) = .ok x) : eachR g (l.map f) = .ok l := by
  induction l with
  | nil => rfl
  | cons x r ih =>
    simp only [List.map_cons, eachR, h x List.mem_cons_self, ih (fun y hy => h y (List.mem_cons_of_mem _ hy))]
    rfl
/-- The values of a record of some kind. -/
def fieldsV (kind count : Nat) (v : Val) : Except Int (List Val) :=
  if v.kind ≠ 3 ∨ v.list.length ≠ count + 1 ∨ (v.list.getD 0 (numV 0)).kind ≠ 0 then .error 91 else if (v.list.getD 0 (numV 0)).num ≠ kind then .error 90 else .ok (v.list.drop 1)
def fieldsR (l : List UInt8) (kind count : Nat) : Except Int (List Val) := andR (decR l) (fieldsV kind count)
/-- An entry of a tree. -/
structure EntN where
  name : List UInt8
  folder : Bool
  id : List UInt8
  stamp : Nat
def noEnt : EntN := ⟨[], false, List.replicate 32 0, 0⟩
structure ComN where
  tree : List UInt8
  parents : List (List UInt8)
  stamp : Nat
  author : List UInt8
  note : List UInt8
def at0 (l : List Val) (k : Nat) : Val := l.getD k (numV 0)
def entryL (l : List Val) : Except Int EntN := if l.length < 2 then .error 91 else andR (textR 64 (at0 l 0)) fun n => andR (nameR (at0 l 1)) fun i =>
  if l.length = 2 then .ok ⟨n, true, i, 0⟩ else andR (stampR (at0 l 2)) fun s => .ok ⟨n, false, i, s⟩
def entryR (v : Val) : Except Int EntN := andR (listR 3 v) entryL
def namesR (most : Nat) (v : Val) : Except Int (List (List UInt8)) := andR (listR most v) (eachR nameR)
def chunkR (l : List UInt8) : Except Int (List UInt8) := andR (fieldsR l 1 1) fun v => textR 262144 (at0 v 0)
def blobL (v : List Val) : Except Int (List (List UInt8) × Nat) := andR (namesR 4096 (at0 v 0)) fun ids => andR (numberR 262144 (at0 v 1)) fun n => .ok (ids, n)
def blobR (l : List UInt8) : Except Int (List (List UInt8) × Nat) := andR (fieldsR l 2 2) blobL
/-- Of bytes the order: 0: the same. -/
def ltB (a b : List UInt8) : Bool := Op.bytesLess a b
def riseFrom (l : List (List UInt8)) : Nat → Nat → Bool
  | 0, _ => true
  | n + 1, i => ltB (l.getD (i - 1) []) (l.getD i []) && riseFrom l n (i + 1)
def riseB (l : List (List UInt8)) : Bool := riseFrom l (l.length - 1) 1
def comL (v : List Val) : Except Int ComN := andR (nameR (at0 v 0)) fun t => andR (namesR 8 (at0 v 1)) fun ps => if riseB ps = false then .error 92 else
  andR (stampR (at0 v 2)) fun s => andR (textR 64 (at0 v 3)) fun a => andR (textR 1024 (at0 v 4)) fun n => .ok ⟨t, ps, s, a, n⟩
def comR (l : List UInt8) : Except Int ComN := andR (fieldsR l 4 5) comL
def kindV (v : Val) : Except Int Nat := if v.kind ≠ 3 ∨ v.list.length = 0 ∨ (v.list.getD 0 (numV 0)).kind ≠ 0 then .error 91 else
  if (v.list.getD 0 (numV 0)).num < 1 ∨ 4 < (v.list.getD 0 (numV 0)).num then .error 90 else .ok (v.list.getD 0 (numV 0)).num
def kindR (l : List UInt8) : Except Int Nat := andR (decR l) kindV

/-- The first fault of a list, by its places. -/
def firstE (f : Nat → Int) : Nat → Nat → Int
  | 0, _ => 0
  | n + 1, i => if f i ≠ 0 then f i else firstE f n (i + 1)
theorem firstE_here {f : Nat → Int} {n i : Nat} (h : f i ≠ 0) : firstE f (n + 1) i = f i := by rw [firstE, if_pos h]
theorem firstE_next {f : Nat → Int} {n i : Nat} (h : f i = 0) : firstE f (n + 1) i = firstE f n (i + 1) := by rw [firstE, if_neg (fun x => x h)]
theorem firstE_zero {f : Nat → Int} {n i : Nat} (h : ∀ k, i ≤ k → k < i + n → f k = 0) : firstE f n i = 0 := by
  induction n generalizing i with
  | zero => rfl
  | succ n ih => rw [firstE_next (h i (Nat.le_refl _) (by omega))]; exact ih (fun k h1 h2 => h k (by omega) (by omega))
theorem firstE_congr {f g : Nat → Int} {n i : Nat} (h : ∀ k, i ≤ k → k < i + n → f k = g k) : firstE f n i = firstE g n i := by
  induction n generalizing i with
  | zero => rfl
  | succ n ih => simp only [firstE]; rw [h i (Nat.le_refl _) (by omega), ih (fun k h1 h2 => h k (by omega) (by omega))]
def nameAt (l : List EntN) (i : Nat) : List UInt8 := (l.getD i noEnt).name
def entFault (l : List EntN) (i : Nat) : Int := if nameB (nameAt l i) = false then 50 else if i = 0 then 0 else if ltB (nameAt l (i - 1)) (nameAt l i) = true then 0 else 92
def orderE (l : List EntN) : Int := firstE (entFault l) l.length 0
def treeL (v : List Val) : Except Int (List EntN) := andR (listR 1024 (at0 v 0)) fun es => andR (eachR entryR es) fun out => if orderE out ≠ 0 then .error (orderE out) else .ok out
def treeR (l : List UInt8) : Except Int (List EntN) := andR (fieldsR l 3 1) treeL
def linksR (l : List UInt8) : Except Int (List (List UInt8)) := andR (kindR l) fun k =>
  if k = 1 then andR (chunkR l) fun _ => .ok [] else if k = 2 then andR (blobR l) fun x => .ok x.1 else if k = 3 then andR (treeR l) fun x => .ok (x.map EntN.id) else andR (comR l) fun x => .ok (x.tree :: x.parents)

def recV (k : Nat) (vs : List Val) : Val := rowV (numV k :: vs)
def chunkV (b : List UInt8) : Val := recV 1 [textV b]
def blobV (ids : List (List UInt8)) (n : Nat) : Val := recV 2 [rowV (ids.map textV), numV n]
def entV (e : EntN) : Val := rowV (textV e.name :: textV e.id :: if e.folder = true then [] else [realV e.stamp])
def treeV (l : List EntN) : Val := recV 3 [rowV (l.map entV)]
def comV (x : ComN) : Val := recV 4 [textV x.tree, rowV (x.parents.map textV), realV x.stamp, textV x.author, textV x.note]
def putChunkR (b : List UInt8) : Except Int (List UInt8) := if 262144 < b.length then .error 2 else encR (chunkV b)
def putBlobR (ids : List (List UInt8)) (n : Int) : Except Int (List UInt8) := if 4096 < ids.length ∨ 262144 < n then .error 2 else if n < 0 then .error 1 else encR (blobV ids n.toNat)
def putTreeR (l : List EntN) : Except Int (List UInt8) := if 1024 < l.length then .error 2 else if orderE l ≠ 0 then .error (orderE l) else encR (treeV l)
def putComR (x : ComN) : Except Int (List UInt8) := if 8 < x.parents.length ∨ 64 < x.author.length ∨ 1024 < x.note.length then .error 2 else if riseB x.parents = false then .error 92 else encR (comV x)

/-- Two values that are written alike. -/
def Same (x y : Val) : Prop := ∀ n o, encV n o x = encV n o y
theorem Same.refl (x : Val) : Same x x := fun _ _ => rfl
theorem Same.symm {x y : Val} (h : Same x y) : Same y x := fun n o => (h n o).symm
theorem Same.trans {x y z : Val} (h : Same x y) (k : Same y z) : Same x z := fun n o => (h n o).trans (k n o)
theorem Same.enc {x y : Val} (h : Same x y) : encR x = encR y := h 16 []
theorem same_num {v : Val} {n : Nat} (h : v.kind = 0) (hn : v.num = n) : Same v (numV n) := by
  obtain ⟨k, u, b, f, l⟩ := v
  simp only [Val.kind, Val.num] at h hn
  subst h hn
  intro n o
  cases n with
  | zero => rfl
  | succ n => rw [enc_num, numV, enc_num]
theorem same_text {v : Val} {b : List UInt8} (h : v.kind = 1) (hb : v.bytes = b) : Same v (textV b) := by
  obtain ⟨k, u, b, f, l⟩ := v
  simp only [Val.kind, Val.bytes] at h hb
  subst h hb
  intro n o
  cases n with
  | zero => rfl
  | succ n => rw [enc_bytes, textV, enc_bytes]
theorem same_real {v : Val} {f : Nat} (h : v.kind = 2) (hf : v.real = f) : Same v (realV f) := by
  obtain ⟨k, u, b, f, l⟩ := v
  simp only [Val.kind, Val.real] at h hf
  subst h hf
  intro n o
  cases n with
  | zero => rfl
  | succ n => rw [enc_real, realV, enc_real]
theorem same_canon (f : Nat) : Same (realV (canonB f)) (realV f) := by
  intro n o
  cases n with
  | zero => rfl
  | succ n => rw [realV, realV, enc_real, enc_real, floatL, floatL, canon_canon]
/-- Lists whose values are written alike, one by one. -/
inductive Sames : List Val → List Val → Prop
  | nil : Sames [] []
  | cons {x y : Val} {l m : List Val} (h : Same x y) (t : Sames l m) : Sames (x :: l) (y :: m)
theorem Sames.len {l m : List Val} (h : Sames l m) : l.length = m.length := by
  induction h with
  | nil => rfl
  | cons _ _ ih => simp [ih]
theorem Sames.refl : ∀ l : List Val, Sames l l
  | [] => .nil
  | x :: l => .cons (Same.refl x) (Sames.refl l)
theorem Sames.fold {l m : List Val} (h : Sames l m) (n : Nat) : ∀ o, foldE (encV n) l o = foldE (encV n) m o := by
  induction h with
  | nil => intro o; rfl
  | @cons x y l m h _ ih =>
    intro o
    simp only [foldE]
    rw [h n o]
    cases encV n o y with
    | ok o' => exact ih o'
    | error c => rfl
theorem same_list {v : Val} {l : List Val} (h : v.kind = 3) (hl : Sames v.list l) : Same v (rowV l) := by
  obtain ⟨k, u, b, f, l0⟩ := v
  simp only [Val.kind, Val.list] at h hl
  subst h
  intro n o
  cases n with
  | zero => rfl
  | succ n => rw [enc_list, rowV, enc_list, hl.len, hl.fold]
theorem same_row {l m : List Val} (h : Sames l m) : Same (rowV l) (rowV m) := same_list rfl h
theorem sames_each {α : Type} {g : Val → Except Int α} {f : α → Val} (h : ∀ x y, g x = .ok y → Same x (f y)) : ∀ {l : List Val} {ys : List α}, eachR g l = .ok ys → Sames l (ys.map f)
  | [], ys, e => by simp only [eachR] at e; injection e with e; subst e; exact .nil
  | x :: r, ys, e => by
    simp only [eachR] at e
    obtain ⟨y, h1, e⟩ := andR_ok e
    obtain ⟨zs, h2, e⟩ := andR_ok e
    injection e with e
    subst e
    exact .cons (h x y h1) (sames_each h h2)
theorem sames_map {α : Type} {f g : α → Val} (l : List α) (h : ∀ x ∈ l, Same (f x) (g x)) : Sames (l.map f) (l.map g) := by
  induction l with
  | nil => exact .nil
  | cons x r ih => exact .cons (h x List.mem_cons_self) (ih fun y hy => h y (List.mem_cons_of_mem _ hy))
def canonE (e : EntN) : EntN := { e with stamp := canonB e.stamp }
def canonC (x : ComN) : ComN := { x with stamp := canonB x.stamp }
theorem ent_canon (e : EntN) : Same (entV (canonE e)) (entV e) := by
  unfold entV canonE
  cases h : e.folder with
  | true => exact Same.refl _
  | false => exact same_row (.cons (Same.refl _) (.cons (Same.refl _) (.cons (same_canon _) .nil)))
theorem tree_canon (l : List EntN) : Same (treeV (l.map canonE)) (treeV l) := by
  unfold treeV recV
  refine same_row (.cons (Same.refl _) (.cons (same_row ?_) .nil))
  rw [List.map_map]
  exact sames_map l fun e _ => ent_canon e
theorem com_canon (x : ComN) : Same (comV (canonC x)) (comV x) := by
  unfold comV recV canonC
  exact same_row (.cons (Same.refl _) (.cons (Same.refl _) (.cons (Same.refl _) (.cons (same_canon _) (.cons (Same.refl _) (.cons (Same.refl _) .nil))))))
end Go.Proofs.YtdolonkeanlaoaaDoor
namespace Go.Proofs.YtdolonkeanlaoaaDoor
open Go.RowKit

theorem textR_ok {most : Nat} {v : Val} {b : List UInt8} (h : textR most v = .ok b) : v.kind = 1 ∧ v.bytes = b ∧ b.length ≤ most := by
  unfold textR at h
  split at h
  · cases h
  split at h
  · cases h
  injection h with h
  subst h
  exact ⟨by omega, rfl, by omega⟩
theorem nameR_ok {v : Val} {b : List UInt8} (h : nameR v = .ok b) : v.kind = 1 ∧ v.bytes = b ∧ b.length = 32 := by
  unfold nameR at h
  split at h
  · cases h
  injection h with h
  subst h
  exact ⟨by omega, rfl, by omega⟩
theorem numberR_ok {most : Nat} {v : Val} {n : Nat} (h : numberR most v = .ok n) : v.kind = 0 ∧ v.num = n ∧ n ≤ most := by
  unfold numberR at h
  split at h
  · cases h
  split at h
  · cases h
  injection h with h
  subst h
  exact ⟨by omega, rfl, by omega⟩
theorem stampR_ok {v : Val} {f : Nat} (h : stampR v = .ok f) : v.kind = 2 ∧ v.real = f := by
  unfold stampR at h
  split at h
  · cases h
  injection h with h
  exact ⟨by omega, h⟩
theorem listR_ok {most : Nat} {v : Val} {l : List Val} (h : listR most v = .ok l) : v.kind = 3 ∧ v.list = l ∧ l.length ≤ most := by
  unfold listR at h
  split at h
  · cases h
  split at h
  · cases h
  injection h with h
  subst h
  exact ⟨by omega, rfl, by omega⟩
theorem text_of {most : Nat} {b : List UInt8} (h : b.length ≤ most) : textR most (textV b) = .ok b := by
  simp [textR, textV, Val.kind, Val.bytes, Nat.not_lt.2 h]
theorem name_of {b : List UInt8} (h : b.length = 32) : nameR (textV b) = .ok b := by
  simp [nameR, textV, Val.kind, Val.bytes, h]
theorem number_of {most n : Nat} (h : n ≤ most) : numberR most (numV n) = .ok n := by
  simp [numberR, numV, Val.kind, Val.num, Nat.not_lt.2 h]
theorem stamp_of (f : Nat) : stampR (realV f) = .ok f := by
  simp [stampR, realV, Val.kind, Val.real]
theorem list_of {most : Nat} {l : List Val} (h : l.length ≤ most) : listR most (rowV l) = .ok l := by
  simp [listR, rowV, Val.kind, Val.list, Nat.not_lt.2 h]
theorem names_of {most : Nat} {l : List (List UInt8)} (h : l.length ≤ most) (hl : ∀ x ∈ l, x.length = 32) : namesR most (rowV (l.map textV)) = .ok l := by
  unfold namesR
  rw [list_of (by rw [List.length_map]; exact h)]
  exact eachR_map fun x hx => name_of (hl x hx)
theorem namesR_ok {most : Nat} {v : Val} {l : List (List UInt8)} (h : namesR most v = .ok l) : v.kind = 3 ∧ Sames v.list (l.map textV) ∧ l.length ≤ most ∧ ∀ x ∈ l, x.length = 32 := by
  unfold namesR at h
  obtain ⟨m, h1, h2⟩ := andR_ok h
  obtain ⟨h3, rfl, h4⟩ := listR_ok h1
  have he := eachR_len h2
  refine ⟨h3, sames_each (fun x y hy => ?_) h2, by omega, fun x hx => ?_⟩
  · obtain ⟨k1, k2, _⟩ := nameR_ok hy
    exact same_text k1 k2
  · obtain ⟨i, hi, rfl⟩ := List.mem_iff_getElem.1 hx
    obtain ⟨y, hy, hg⟩ := eachR_mem h2 i _ (List.getElem?_eq_getElem (by omega))
    rw [List.getElem?_eq_getElem hi] at hy
    injection hy with hy
    subst hy
    exact (nameR_ok hg).2.2
/-- The values of a record, as they stand. -/
theorem fieldsV_ok {kind count : Nat} {v : Val} {l : List Val} (h : fieldsV kind count v = .ok l) : v.kind = 3 ∧ l.length = count ∧ ∃ x, v.list = x :: l ∧ x.kind = 0 ∧ x.num = kind := by
  unfold fieldsV at h
  split at h
  · cases h
  rename_i h1
  split at h
  · cases h
  rename_i h2
  injection h with h
  obtain ⟨k, u, b, f, vl⟩ := v
  simp only [Val.kind, Val.list] at h1 h2 h ⊢
  cases vl with
  | nil => simp at h1
  | cons x r =>
    simp at h1 h2 h
    subst h
    exact ⟨by omega, by omega, x, rfl, by omega, by omega⟩
theorem fields_rec (kind : Nat) (vs : List Val) : fieldsV kind vs.length (recV kind vs) = .ok vs := by
  unfold fieldsV recV rowV
  simp [Val.kind, Val.list, numV, Val.num]
theorem kind_rec (kind : Nat) (vs : List Val) (h1 : 1 ≤ kind) (h4 : kind ≤ 4) : kindV (recV kind vs) = .ok kind := by
  unfold kindV recV rowV
  simp [Val.kind, Val.list, numV, Val.num]
  omega
theorem fields_kind {l : List UInt8} {kind count : Nat} {vs : List Val} (h : fieldsR l kind count = .ok vs) (h1 : 1 ≤ kind) (h4 : kind ≤ 4) : kindR l = .ok kind := by
  obtain ⟨v, hd, hf⟩ := andR_ok h
  obtain ⟨k3, _, x, hx, kx, nx⟩ := fieldsV_ok hf
  unfold kindR
  rw [andR_of hd]
  unfold kindV
  rw [hx]
  simp [k3, kx, nx]
  omega
theorem rec_same {kind count : Nat} {v : Val} {vs ws : List Val} (h : fieldsV kind count v = .ok vs) (hs : Sames vs ws) : Same v (recV kind ws) := by
  obtain ⟨k3, _, x, hx, kx, nx⟩ := fieldsV_ok h
  refine same_list k3 ?_
  rw [hx]
  exact .cons (same_num kx nx) hs
theorem two_of {l : List Val} (h : l.length = 2) : l = [at0 l 0, at0 l 1] := by
  match l, h with
  | [a, b], _ => rfl
theorem three_of {l : List Val} (h : l.length = 3) : l = [at0 l 0, at0 l 1, at0 l 2] := by
  match l, h with
  | [a, b, c], _ => rfl
theorem one_of {l : List Val} (h : l.length = 1) : l = [at0 l 0] := by
  match l, h with
  | [a], _ => rfl
theorem five_of {l : List Val} (h : l.length = 5) : l = [at0 l 0, at0 l 1, at0 l 2, at0 l 3, at0 l 4] := by
  match l, h with
  | [a, b, c, d, e], _ => rfl
theorem entryR_ok {v : Val} {e : EntN} (h : entryR v = .ok e) : Same v (entV e) ∧ e.name.length ≤ 64 ∧ e.id.length = 32 ∧ (e.folder = true → e.stamp = 0) := by
  unfold entryR at h
  obtain ⟨l, h1, h⟩ := andR_ok h
  obtain ⟨k3, rfl, l3⟩ := listR_ok h1
  unfold entryL at h
  split at h
  · cases h
  rename_i h2
  obtain ⟨n, e1, h⟩ := andR_ok h
  obtain ⟨i, e2, h⟩ := andR_ok h
  obtain ⟨a1, a2, a3⟩ := textR_ok e1
  obtain ⟨b1, b2, b3⟩ := nameR_ok e2
  split at h
  · rename_i hl
    injection h with h
    subst h
    refine ⟨same_list k3 ?_, a3, b3, fun _ => rfl⟩
    rw [two_of hl]
    exact .cons (same_text a1 a2) (.cons (same_text b1 b2) .nil)
  · rename_i hl
    obtain ⟨s, e3, h⟩ := andR_ok h
    obtain ⟨c1, c2⟩ := stampR_ok e3
    injection h with h
    subst h
    refine ⟨same_list k3 ?_, a3, b3, fun h => by cases h⟩
    rw [three_of (show v.list.length = 3 by omega)]
    exact .cons (same_text a1 a2) (.cons (same_text b1 b2) (.cons (same_real c1 c2) .nil))
/-- What is read is written as just those bytes. -/
theorem chunk_only {q c : List UInt8} (h : chunkR q = .ok c) : putChunkR c = .ok q := by
  obtain ⟨vs, h1, h2⟩ := andR_ok h
  obtain ⟨v, hd, hf⟩ := andR_ok h1
  obtain ⟨a1, a2, a3⟩ := textR_ok h2
  unfold putChunkR
  rw [if_neg (by omega), ← dec_enc hd]
  refine (Same.enc (rec_same hf ?_)).symm
  rw [one_of (fieldsV_ok hf).2.1]
  exact .cons (same_text a1 a2) .nil
theorem blob_only {q : List UInt8} {x : List (List UInt8) × Nat} (h : blobR q = .ok x) : putBlobR x.1 (x.2 : Int) = .ok q := by
  obtain ⟨vs, h1, h2⟩ := andR_ok h
  obtain ⟨v, hd, hf⟩ := andR_ok h1
  unfold blobL at h2
  obtain ⟨ids, e1, h2⟩ := andR_ok h2
  obtain ⟨n, e2, h2⟩ := andR_ok h2
  injection h2 with h2
  subst h2
  obtain ⟨a1, a2, a3, _⟩ := namesR_ok e1
  obtain ⟨b1, b2, b3⟩ := numberR_ok e2
  unfold putBlobR
  simp only
  rw [if_neg (by omega), if_neg (by omega), ← dec_enc hd]
  refine (Same.enc (rec_same hf ?_)).symm
  rw [two_of (fieldsV_ok hf).2.1]
  exact .cons (same_list a1 a2) (.cons (same_num b1 (by simpa using b2)) .nil)
theorem tree_only {q : List UInt8} {l : List EntN} (h : treeR q = .ok l) : putTreeR l = .ok q := by
  obtain ⟨vs, h1, h2⟩ := andR_ok h
  obtain ⟨v, hd, hf⟩ := andR_ok h1
  unfold treeL at h2
  obtain ⟨es, e1, h2⟩ := andR_ok h2
  obtain ⟨out, e2, h2⟩ := andR_ok h2
  split at h2
  · cases h2
  rename_i h0
  injection h2 with h2
  subst h2
  obtain ⟨a1, rfl, a3⟩ := listR_ok e1
  have hl := eachR_len e2
  unfold putTreeR
  rw [if_neg (by omega), if_neg h0, ← dec_enc hd]
  refine (Same.enc (rec_same hf ?_)).symm
  rw [one_of (fieldsV_ok hf).2.1]
  exact .cons (same_list a1 (sames_each (fun x y hy => (entryR_ok hy).1) e2)) .nil
theorem com_only {q : List UInt8} {x : ComN} (h : comR q = .ok x) : putComR x = .ok q := by
  obtain ⟨vs, h1, h2⟩ := andR_ok h
  obtain ⟨v, hd, hf⟩ := andR_ok h1
  unfold comL at h2
  obtain ⟨t, e1, h2⟩ := andR_ok h2
  obtain ⟨ps, e2, h2⟩ := andR_ok h2
  split at h2
  · cases h2
  rename_i hr
  obtain ⟨s, e3, h2⟩ := andR_ok h2
  obtain ⟨a, e4, h2⟩ := andR_ok h2
  obtain ⟨n, e5, h2⟩ := andR_ok h2
  injection h2 with h2
  subst h2
  obtain ⟨a1, a2, a3⟩ := nameR_ok e1
  obtain ⟨b1, b2, b3, _⟩ := namesR_ok e2
  obtain ⟨c1, c2⟩ := stampR_ok e3
  obtain ⟨d1, d2, d3⟩ := textR_ok e4
  obtain ⟨f1, f2, f3⟩ := textR_ok e5
  unfold putComR
  simp only
  rw [if_neg (by omega), if_neg hr, ← dec_enc hd]
  refine (Same.enc (rec_same hf ?_)).symm
  rw [five_of (fieldsV_ok hf).2.1]
  exact .cons (same_text a1 a2) (.cons (same_list b1 b2) (.cons (same_real c1 c2) (.cons (same_text d1 d2) (.cons (same_text f1 f2) .nil))))
/-- Which of the four a record is: one at most. -/
theorem chunk_kind {q c : List UInt8} (h : chunkR q = .ok c) : kindR q = .ok 1 := by
  obtain ⟨vs, h1, _⟩ := andR_ok h
  exact fields_kind h1 (by omega) (by omega)
theorem blob_kind {q : List UInt8} {x : List (List UInt8) × Nat} (h : blobR q = .ok x) : kindR q = .ok 2 := by
  obtain ⟨vs, h1, _⟩ := andR_ok h
  exact fields_kind h1 (by omega) (by omega)
theorem tree_kind {q : List UInt8} {l : List EntN} (h : treeR q = .ok l) : kindR q = .ok 3 := by
  obtain ⟨vs, h1, _⟩ := andR_ok h
  exact fields_kind h1 (by omega) (by omega)
theorem com_kind {q : List UInt8} {x : ComN} (h : comR q = .ok x) : kindR q = .ok 4 := by
  obtain ⟨vs, h1, _⟩ := andR_ok h
  exact fields_kind h1 (by omega) (by omega)
theorem kindR_lt {q : List UInt8} {k : Nat} (h : kindR q = .ok k) : 1 ≤ k ∧ k ≤ 4 := by
  obtain ⟨v, _, h⟩ := andR_ok h
  unfold kindV at h
  split at h
  · cases h
  split at h
  · cases h
  injection h with h
  omega
/-- What is written is read again. -/
def fineI (l : List (List UInt8)) : Prop := ∀ x ∈ l, x.length = 32
theorem fine_text (n : Nat) {b : List UInt8} (h : b.length ≤ 1048576) : FineV n (textV b) := by
  cases n with
  | zero => trivial
  | succ n => exact ⟨by omega, by omega, h, by simp, fun x hx => by simp at hx⟩
theorem fine_num (n : Nat) {k : Nat} (h : k < 18446744073709551616) : FineV n (numV k) := by
  cases n with
  | zero => trivial
  | succ n => exact ⟨h, by omega, by simp, by simp, fun x hx => by simp at hx⟩
theorem fine_real (n : Nat) {f : Nat} (h : f < 18446744073709551616) : FineV n (realV f) := by
  cases n with
  | zero => trivial
  | succ n => exact ⟨by omega, h, by simp, by simp, fun x hx => by simp at hx⟩
theorem fine_row (n : Nat) {l : List Val} (h : l.length ≤ 1048576) (hl : ∀ x ∈ l, FineV n x) : FineV (n + 1) (rowV l) := ⟨by omega, by omega, by simp, h, hl⟩
theorem norm_text (n : Nat) (b : List UInt8) : normV n (textV b) = textV b := by cases n <;> rfl
theorem norm_num (n k : Nat) : normV n (numV k) = numV k := by cases n <;> rfl
theorem norm_real (n f : Nat) : normV (n + 1) (realV f) = realV (canonB f) := rfl
theorem norm_row (n : Nat) (l : List Val) : normV (n + 1) (rowV l) = rowV (l.map (normV n)) := rfl
theorem norm_texts (n : Nat) (l : List (List UInt8)) : (l.map textV).map (normV n) = l.map textV := by
  rw [List.map_map]
  exact List.map_congr_left fun x _ => norm_text n x
/-- An entry as it is read back. -/
def backE (e : EntN) : EntN := if e.folder = true then { e with stamp := 0 } else { e with stamp := canonB e.stamp }
def backC (x : ComN) : ComN := { x with stamp := canonB x.stamp }
theorem norm_ent (n : Nat) (e : EntN) : normV (n + 2) (entV e) = entV (backE e) := by
  unfold entV backE
  rw [norm_row]
  cases h : e.folder with
  | true => simp [norm_text]
  | false => simp [norm_text, norm_real]
theorem entry_of {e : EntN} (h1 : e.name.length ≤ 64) (h2 : e.id.length = 32) : entryR (entV (backE e)) = .ok (backE e) := by
  unfold entV backE entryR
  cases h : e.folder with
  | true =>
    simp only [if_true]
    rw [list_of (by simp)]
    simp only [andR]
    unfold entryL
    simp only [List.length_cons, List.length_nil, at0, List.getD_cons_zero, List.getD_cons_succ]
    rw [if_neg (by omega), text_of h1, name_of h2]
    simp only [andR]
    rfl
  | false =>
    simp only [Bool.false_eq_true, if_false]
    rw [list_of (by simp)]
    simp only [andR]
    unfold entryL
    simp only [List.length_cons, List.length_nil, at0, List.getD_cons_zero, List.getD_cons_succ]
    rw [if_neg (by omega), text_of h1, name_of h2]
    simp only [andR]
    rw [stamp_of]
    rfl
theorem back_read {kind : Nat} {vs ws : List Val} {q : List UInt8} (he : encR (recV kind vs) = .ok q) (hl : vs.length ≤ 1000) (hf : ∀ x ∈ vs, FineV 15 x) (hk : kind < 18446744073709551616) (hn : vs.map (normV 15) = ws) :
    decR q = .ok (recV kind ws) := by
  have := (enc_dec (x := recV kind vs) (fine_row 15 (by simp; omega) (fun x hx => by
    rcases List.mem_cons.1 hx with rfl | hx
    · exact fine_num _ hk
    · exact hf x hx)) he).1
  rw [this]
  unfold recV
  rw [norm_row, List.map_cons, norm_num, hn]
theorem chunk_back {c q : List UInt8} (h : putChunkR c = .ok q) : chunkR q = .ok c ∧ linksR q = .ok [] := by
  unfold putChunkR at h
  split at h
  · cases h
  have hd := back_read (ws := [textV c]) h (by simp) (fun x hx => by simp at hx; subst hx; exact fine_text _ (by omega)) (by omega) (by simp [norm_text])
  have hc : chunkR q = .ok c := by
    unfold chunkR fieldsR
    rw [hd]
    simp only [andR]
    rw [show fieldsV 1 1 (recV 1 [textV c]) = .ok [textV c] from fields_rec 1 [textV c]]
    exact text_of (by omega)
  refine ⟨hc, ?_⟩
  unfold linksR
  rw [chunk_kind hc]
  simp only [andR, if_true]
  rw [hc]
theorem blob_back {ids : List (List UInt8)} {n : Int} {q : List UInt8} (hi : ∀ x ∈ ids, x.length = 32) (h : putBlobR ids n = .ok q) : 0 ≤ n ∧ n ≤ 262144 ∧ ids.length ≤ 4096 ∧ blobR q = .ok (ids, n.toNat) ∧ linksR q = .ok ids := by
  unfold putBlobR at h
  split at h
  · cases h
  split at h
  · cases h
  have hd := back_read (ws := [rowV (ids.map textV), numV n.toNat]) h (by simp) (fun x hx => by
    simp at hx
    rcases hx with rfl | rfl
    · exact fine_row 14 (by simp; omega) (fun y hy => by
        obtain ⟨z, hz, rfl⟩ := List.mem_map.1 hy
        exact fine_text _ (by rw [hi z hz]; omega))
    · exact fine_num _ (by omega)) (by omega) (by simp only [List.map_cons, List.map_nil, norm_num, norm_row, norm_texts])
  have hc : blobR q = .ok (ids, n.toNat) := by
    unfold blobR fieldsR
    rw [hd]
    simp only [andR]
    rw [show fieldsV 2 2 (recV 2 [rowV (ids.map textV), numV n.toNat]) = .ok [rowV (ids.map textV), numV n.toNat] from fields_rec 2 [_, _]]
    simp only [blobL, at0, List.getD_cons_zero, List.getD_cons_succ]
    rw [names_of (by omega) hi]
    simp only [andR]
    rw [number_of (by omega)]
  refine ⟨by omega, by omega, by omega, hc, ?_⟩
  unfold linksR
  rw [blob_kind hc]
  simp only [andR]
  rw [if_neg (by omega), if_pos trivial, hc]
theorem orderE_back (l : List EntN) : orderE (l.map backE) = orderE l := by
  unfold orderE
  rw [List.length_map]
  have e : ∀ i, nameAt (l.map backE) i = nameAt l i := fun i => by
    unfold nameAt
    rw [List.getD_eq_getElem?_getD, List.getD_eq_getElem?_getD, List.getElem?_map]
    cases l[i]? with
    | none => rfl
    | some x => simp only [Option.map_some, Option.getD_some]; unfold backE; split <;> rfl
  refine firstE_congr fun k _ _ => ?_
  unfold entFault
  rw [e, e]
theorem orderE_name {l : List EntN} (h : orderE l = 0) : ∀ i, i < l.length → nameB (nameAt l i) = true := by
  have key : ∀ n i, firstE (entFault l) n i = 0 → ∀ k, i ≤ k → k < i + n → entFault l k = 0 := by
    intro n
    induction n with
    | zero => intro i _ k h1 h2; omega
    | succ n ih =>
      intro i h k h1 h2
      by_cases h0 : entFault l i = 0
      · rw [firstE_next h0] at h
        by_cases hk : k = i
        · rw [hk]; exact h0
        · exact ih (i + 1) h k (by omega) (by omega)
      · rw [firstE_here h0] at h; exact absurd h h0
  intro i hi
  have := key l.length 0 h i (by omega) (by omega)
  unfold entFault at this
  cases hb : nameB (nameAt l i) with
  | true => rfl
  | false => rw [if_pos hb] at this; cases this
theorem nameB_len {s : List UInt8} (h : nameB s = true) : s.length ≤ 64 := by
  unfold nameB at h
  simp at h
  omega
theorem tree_back {l : List EntN} {q : List UInt8} (hi : ∀ x ∈ l, x.id.length = 32 ∧ x.stamp < 18446744073709551616) (h : putTreeR l = .ok q) : l.length ≤ 1024 ∧ treeR q = .ok (l.map backE) ∧ linksR q = .ok (l.map EntN.id) := by
  unfold putTreeR at h
  split at h
  · cases h
  split at h
  · cases h
  rename_i h1 h0
  have h0 : orderE l = 0 := by omega
  have hnm : ∀ x ∈ l, x.name.length ≤ 64 := fun x hx => by
    obtain ⟨i, hi, rfl⟩ := List.mem_iff_getElem.1 hx
    have := nameB_len (orderE_name h0 i hi)
    unfold nameAt at this
    simpa [List.getD, hi] using this
  have hd := back_read (ws := [rowV ((l.map backE).map entV)]) h (by simp) (fun x hx => by
    simp at hx
    subst hx
    exact fine_row 14 (by simp; omega) (fun y hy => by
      obtain ⟨z, hz, rfl⟩ := List.mem_map.1 hy
      refine fine_row 13 ?_ (fun u hu => ?_)
      · split <;> simp
      · have h2 := hi z hz
        have h3 := hnm z hz
        split at hu
        · simp at hu
          rcases hu with rfl | rfl
          · exact fine_text _ (by omega)
          · exact fine_text _ (by omega)
        · simp at hu
          rcases hu with rfl | rfl | rfl
          · exact fine_text _ (by omega)
          · exact fine_text _ (by omega)
          · exact fine_real _ h2.2)) (by omega) (by
      simp only [List.map_cons, List.map_nil, norm_row, List.map_map]
      congr 3
      funext e
      exact norm_ent 12 e)
  have hc : treeR q = .ok (l.map backE) := by
    unfold treeR fieldsR
    rw [hd]
    simp only [andR]
    rw [show fieldsV 3 1 (recV 3 [rowV ((l.map backE).map entV)]) = .ok [rowV ((l.map backE).map entV)] from fields_rec 3 [_]]
    simp only [treeL, at0, List.getD_cons_zero]
    rw [list_of (by simp; omega)]
    simp only [andR]
    rw [eachR_map (f := entV) (l := l.map backE) (fun x hx => by
      obtain ⟨z, hz, rfl⟩ := List.mem_map.1 hx
      exact entry_of (hnm z hz) (hi z hz).1)]
    simp only [orderE_back, h0]
    rfl
  refine ⟨by omega, hc, ?_⟩
  unfold linksR
  rw [tree_kind hc]
  simp only [andR]
  rw [if_neg (by omega), if_neg (by omega), if_pos trivial, hc]
  simp only [List.map_map]
  congr 2
  funext e
  simp only [Function.comp, backE]
  split <;> rfl
theorem com_back {x : ComN} {q : List UInt8} (ht : x.tree.length = 32) (hp : ∀ y ∈ x.parents, y.length = 32) (hs : x.stamp < 18446744073709551616) (h : putComR x = .ok q) : comR q = .ok (backC x) ∧ linksR q = .ok (x.tree :: x.parents) := by
  unfold putComR at h
  split at h
  · cases h
  split at h
  · cases h
  rename_i h1 hr
  have hd := back_read (ws := [textV x.tree, rowV (x.parents.map textV), realV (canonB x.stamp), textV x.author, textV x.note]) h (by simp) (fun y hy => by
    simp at hy
    rcases hy with rfl | rfl | rfl | rfl | rfl
    · exact fine_text _ (by omega)
    · exact fine_row 14 (by simp; omega) (fun y hy => by
        obtain ⟨z, hz, rfl⟩ := List.mem_map.1 hy
        exact fine_text _ (by rw [hp z hz]; omega))
    · exact fine_real _ hs
    · exact fine_text _ (by omega)
    · exact fine_text _ (by omega)) (by omega) (by simp only [List.map_cons, List.map_nil, norm_text, norm_real, norm_row, norm_texts])
  have hc : comR q = .ok (backC x) := by
    unfold comR fieldsR
    rw [hd]
    simp only [andR]
    rw [show fieldsV 4 5 (recV 4 [textV x.tree, rowV (x.parents.map textV), realV (canonB x.stamp), textV x.author, textV x.note]) = .ok [textV x.tree, rowV (x.parents.map textV), realV (canonB x.stamp), textV x.author, textV x.note] from fields_rec 4 [_, _, _, _, _]]
    simp only [comL, at0, List.getD_cons_zero, List.getD_cons_succ]
    rw [name_of ht]
    simp only [andR]
    rw [names_of (by omega) hp]
    simp only
    rw [if_neg hr, stamp_of]
    simp only
    rw [text_of (by omega)]
    simp only
    rw [text_of (by omega)]
    rfl
  refine ⟨hc, ?_⟩
  unfold linksR
  rw [com_kind hc]
  simp only [andR]
  rw [if_neg (by omega), if_neg (by omega), if_neg (by omega), hc]
  rfl
end Go.Proofs.YtdolonkeanlaoaaDoor
