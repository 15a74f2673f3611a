/- A file system as lists: files by numbers, names in order, changes of names; what each call makes of it. -/
import Derived.Lib.Hide
namespace Go.Proofs.YtgknihcpmpfocaaDoor
abbrev Nm := List UInt8
theorem nm_irrefl (a : Nm) : ¬ a < a := List.lt_irrefl a
theorem nm_trans {a b c : Nm} (h : a < b) (k : b < c) : a < c := List.lt_trans h k
theorem nm_tri (a b : Nm) (h : ¬ a < b) (k : ¬ b < a) : a = b := List.le_antisymm (List.not_lt.1 k) (List.not_lt.1 h)
/-- A file: its bytes, of which the first are durable. -/
structure Fi where
  data : List UInt8
  dur : Nat
def noFi : Fi := ⟨[], 0⟩
/-- A change of names. -/
structure Ac where
  gone : Nm
  come : Nm
  file : Option Nat
abbrev Dir := List (Nm × Nat)
structure Fs where
  files : List Fi
  now : Dir
  sure : Dir
  acts : List Ac
  room : Nat
  steps : Nat
  more : Int
  /-- How many of its steps it doesn't tell of: those ahead of a fork. -/
  lead : Nat
def fnd : Dir → Nm → Option Nat
  | [], _ => none
  | p :: r, x => if p.1 = x then some p.2 else fnd r x
def wout (l : Dir) (x : Nm) : Dir := l.filter fun p => decide (p.1 ≠ x)
def insD (x : Nm) (i : Nat) : Dir → Dir
  | [] => [(x, i)]
  | p :: r => if x < p.1 then (x, i) :: p :: r else p :: insD x i r
def doA (l : Dir) (a : Ac) : Dir :=
  match a.file with
  | none => wout l a.gone
  | some i => insD a.come i (wout (wout l a.gone) a.come)
def Rise (l : Dir) : Prop := l.Pairwise fun p q => p.1 < q.1
theorem Rise.wout {l : Dir} (h : Rise l) (x : Nm) : Rise (wout l x) := List.Pairwise.sublist List.filter_sublist h
theorem mem_wout {l : Dir} {x : Nm} {p : Nm × Nat} : p ∈ wout l x ↔ p ∈ l ∧ p.1 ≠ x := by unfold wout; simp [List.mem_filter]
theorem mem_insD {x : Nm} {i : Nat} {l : Dir} {p : Nm × Nat} : p ∈ insD x i l ↔ p = (x, i) ∨ p ∈ l := by
  induction l with
  | nil => simp [insD]
  | cons q r ih =>
    unfold insD
    split
    · simp
    · rw [List.mem_cons, ih, List.mem_cons]
      constructor
      · rintro (h | h | h)
        · exact Or.inr (Or.inl h)
        · exact Or.inl h
        · exact Or.inr (Or.inr h)
      · rintro (h | h | h)
        · exact Or.inr (Or.inl h)
        · exact Or.inl h
        · exact Or.inr (Or.inr h)
theorem Rise.ins {l : Dir} (h : Rise l) {x : Nm} (hx : ∀ p ∈ l, p.1 ≠ x) (i : Nat) : Rise (insD x i l) := by
  induction l with
  | nil => exact List.pairwise_singleton _ _
  | cons q r ih =>
    obtain ⟨h1, h2⟩ := List.pairwise_cons.1 h
    unfold insD
    split
    · rename_i hlt
      refine List.pairwise_cons.2 ⟨fun p hp => ?_, h⟩
      rcases List.mem_cons.1 hp with rfl | hp
      · exact hlt
      · exact nm_trans hlt (h1 p hp)
    · rename_i hlt
      refine List.pairwise_cons.2 ⟨fun p hp => ?_, ih h2 (fun p hp => hx p (List.mem_cons_of_mem _ hp))⟩
      rcases mem_insD.1 hp with rfl | hp
      · show q.1 < x
        by_cases hq : q.1 < x
        · exact hq
        · exact absurd (nm_tri _ _ hq hlt) (hx q List.mem_cons_self)
      · exact h1 p hp
theorem mem_doA {l : Dir} {a : Ac} {p : Nm × Nat} : p ∈ doA l a ↔ (∃ i, a.file = some i ∧ p = (a.come, i)) ∨ (p ∈ l ∧ p.1 ≠ a.gone ∧ (a.file ≠ none → p.1 ≠ a.come)) := by
  unfold doA
  cases a.file with
  | none => simp [mem_wout]
  | some i => simp [mem_insD, mem_wout, and_assoc]
theorem Rise.doA {l : Dir} (h : Rise l) (a : Ac) : Rise (doA l a) := by
  unfold Go.Proofs.YtgknihcpmpfocaaDoor.doA
  cases a.file with
  | none => exact h.wout _
  | some i => exact ((h.wout _).wout _).ins (fun p hp => (mem_wout.1 hp).2) _
theorem fnd_mem {l : Dir} {x : Nm} {i : Nat} (h : fnd l x = some i) : (x, i) ∈ l := by
  induction l with
  | nil => cases h
  | cons p r ih =>
    unfold fnd at h
    split at h
    · rename_i e
      injection h with h
      rw [← e, ← h]
      exact List.mem_cons_self
    · exact List.mem_cons_of_mem _ (ih h)
theorem fnd_none {l : Dir} {x : Nm} : fnd l x = none ↔ ∀ p ∈ l, p.1 ≠ x := by
  induction l with
  | nil => simp [fnd]
  | cons p r ih =>
    unfold fnd
    split
    · rename_i e
      constructor
      · intro h; cases h
      · intro h; exact absurd e (h p List.mem_cons_self)
    · rename_i e
      rw [ih]
      constructor
      · intro h q hq
        rcases List.mem_cons.1 hq with rfl | hq
        · exact e
        · exact h q hq
      · intro h q hq
        exact h q (List.mem_cons_of_mem _ hq)
theorem mem_fnd {l : Dir} (hr : Rise l) {x : Nm} {i : Nat} (h : (x, i) ∈ l) : fnd l x = some i := by
  induction l with
  | nil => cases h
  | cons p r ih =>
    obtain ⟨h1, h2⟩ := List.pairwise_cons.1 hr
    unfold fnd
    rcases List.mem_cons.1 h with e | h
    · rw [if_pos (by rw [← e]), ← e]
    · rw [if_neg (fun e => nm_irrefl x (by have := h1 _ h; rwa [e] at this))]
      exact ih h2 h
theorem fnd_iff {l : Dir} (hr : Rise l) {x : Nm} {i : Nat} : fnd l x = some i ↔ (x, i) ∈ l := ⟨fnd_mem, mem_fnd hr⟩
theorem opt_ext {a b : Option Nat} (h : ∀ i, a = some i ↔ b = some i) : a = b := by
  cases a with
  | none =>
    cases b with
    | none => rfl
    | some j => exact absurd ((h j).2 rfl) (by simp)
  | some i => exact ((h i).1 rfl).symm
theorem fnd_doA {l : Dir} (hr : Rise l) (a : Ac) (x : Nm) : fnd (doA l a) x = match a.file with
    | none => if x = a.gone then none else fnd l x
    | some i => if x = a.come then some i else if x = a.gone then none else fnd l x := by
  refine opt_ext (fun j => ?_)
  rw [fnd_iff (hr.doA a), mem_doA]
  cases ha : a.file with
  | none =>
    simp only [reduceCtorEq, false_and, exists_false, false_or, ne_eq, not_true_eq_false, false_implies, and_true]
    by_cases e : x = a.gone
    · simp [e]
    · simp [e, fnd_iff hr]
  | some i =>
    simp only [Option.some.injEq, ne_eq, reduceCtorEq, not_false_eq_true, forall_const, Prod.mk.injEq]
    by_cases e : x = a.come
    · simp [e, eq_comm]
    · by_cases e2 : x = a.gone
      · simp [e2]
        intro h; exact absurd (e2.trans h) e
      · simp [e, e2, fnd_iff hr]
theorem len_wout (l : Dir) (x : Nm) : (wout l x).length ≤ l.length := List.length_filter_le _ _
theorem len_ins (x : Nm) (i : Nat) (l : Dir) : (insD x i l).length = l.length + 1 := by
  induction l with
  | nil => rfl
  | cons p r ih => unfold insD; split <;> simp [ih]
theorem len_doA (l : Dir) (a : Ac) : (doA l a).length ≤ l.length + 1 := by
  unfold doA
  cases a.file with
  | none => have := len_wout l a.gone; show (wout l a.gone).length ≤ _; omega
  | some i =>
    have h1 := len_wout l a.gone
    have h2 := len_wout (wout l a.gone) a.come
    show (insD a.come i (wout (wout l a.gone) a.come)).length ≤ _
    rw [len_ins]; omega
/-- Names that may stand together: in order, each file once, none empty. -/
structure DirOk (n : Nat) (l : Dir) : Prop where
  rise : Rise l
  inj : ∀ p ∈ l, ∀ q ∈ l, p.2 = q.2 → p = q
  lt : ∀ p ∈ l, p.2 < n
  nm : ∀ p ∈ l, p.1 ≠ [] ∧ p.1.length ≤ 255
theorem DirOk.mono {n m : Nat} {l : Dir} (h : DirOk n l) (hm : n ≤ m) : DirOk m l := ⟨h.rise, h.inj, fun p hp => Nat.lt_of_lt_of_le (h.lt p hp) hm, h.nm⟩
theorem dirOk_nil (n : Nat) : DirOk n [] := ⟨List.Pairwise.nil, fun _ h => (by cases h), fun _ h => (by cases h), fun _ h => (by cases h)⟩
theorem DirOk.none {n : Nat} {l : Dir} (h : DirOk n l) {a : Ac} (ha : a.file = none) : DirOk n (doA l a) := by
  have hm : ∀ p, p ∈ doA l a → p ∈ l := fun p hp => by
    rcases mem_doA.1 hp with ⟨i, e, _⟩ | hp
    · rw [ha] at e; cases e
    · exact hp.1
  exact ⟨h.rise.doA a, fun p hp q hq => h.inj p (hm p hp) q (hm q hq), fun p hp => h.lt p (hm p hp), fun p hp => h.nm p (hm p hp)⟩
theorem DirOk.some {n : Nat} {l : Dir} (h : DirOk n l) {a : Ac} {i : Nat} (ha : a.file = Option.some i) (hi : i < n) (hc : a.come ≠ [] ∧ a.come.length ≤ 255) (hl : ∀ p ∈ l, p.2 = i → p.1 = a.gone) : DirOk n (doA l a) := by
  have hm : ∀ p, p ∈ doA l a → p = (a.come, i) ∨ (p ∈ l ∧ p.1 ≠ a.gone) := fun p hp => by
    rcases mem_doA.1 hp with ⟨j, e, e2⟩ | hp
    · rw [ha] at e
      injection e with e
      subst e
      exact Or.inl e2
    · exact Or.inr ⟨hp.1, hp.2.1⟩
  refine ⟨h.rise.doA a, fun p hp q hq e => ?_, fun p hp => ?_, fun p hp => ?_⟩
  · rcases hm p hp with rfl | ⟨hp, hpg⟩
    · rcases hm q hq with rfl | ⟨hq, hqg⟩
      · rfl
      · exact absurd (hl q hq e.symm) hqg
    · rcases hm q hq with rfl | ⟨hq, hqg⟩
      · exact absurd (hl p hp e) hpg
      · exact h.inj p hp q hq e
  · rcases hm p hp with rfl | ⟨hp, _⟩
    · exact hi
    · exact h.lt p hp
  · rcases hm p hp with rfl | ⟨hp, _⟩
    · exact hc
    · exact h.nm p hp
def doAll (l : Dir) (as : List Ac) : Dir := as.foldl doA l
theorem doAll_snoc (l : Dir) (as : List Ac) (a : Ac) : doAll l (as ++ [a]) = doA (doAll l as) a := by unfold doAll; rw [List.foldl_append]; rfl
theorem doAll_len (l : Dir) (as : List Ac) : (doAll l as).length ≤ l.length + as.length := by
  induction as generalizing l with
  | nil => exact Nat.le_refl _
  | cons a r ih =>
    show (doAll (doA l a) r).length ≤ _
    have h1 := ih (doA l a)
    have h2 := len_doA l a
    rw [List.length_cons]; omega
theorem doAll_mem {l : Dir} {as : List Ac} {p : Nm × Nat} (h : p ∈ doAll l as) : p ∈ l ∨ ∃ a ∈ as, a.file = some p.2 := by
  induction as generalizing l with
  | nil => exact Or.inl h
  | cons a r ih =>
    rcases ih (l := doA l a) h with h | ⟨b, hb, e⟩
    · rcases mem_doA.1 h with ⟨i, e, rfl⟩ | h
      · exact Or.inr ⟨a, List.mem_cons_self, e⟩
      · exact Or.inl h.1
    · exact Or.inr ⟨b, List.mem_cons_of_mem _ hb, e⟩
/-- A file's number that a name means, now or when changes are undone. -/
def Live (s : Fs) (i : Nat) : Prop := (∃ p ∈ s.sure, p.2 = i) ∨ ∃ a ∈ s.acts, a.file = some i
structure FsOk (s : Fs) : Prop where
  eq : s.now = doAll s.sure s.acts
  dirs : ∀ k, k ≤ s.acts.length → DirOk s.files.length (doAll s.sure (s.acts.take k))
  acts : ∀ a ∈ s.acts, (∀ i, a.file = some i → i < s.files.length) ∧ a.gone.length ≤ 255 ∧ a.come.length ≤ 255
  dat : ∀ f ∈ s.files, f.dur ≤ f.data.length ∧ f.data.length ≤ 4194304
  cnt : s.sure.length + s.acts.length ≤ s.steps
  room : s.room ≤ 4194304
  lo : -9223372036854775808 ≤ s.more
  hi : s.more ≤ 9223372036854775807
theorem FsOk.nowOk {s : Fs} (h : FsOk s) : DirOk s.files.length s.now := by
  have := h.dirs _ (Nat.le_refl _)
  rw [List.take_length] at this
  rw [h.eq]; exact this
theorem FsOk.sureOk {s : Fs} (h : FsOk s) : DirOk s.files.length s.sure := h.dirs 0 (Nat.zero_le _)
theorem FsOk.live {s : Fs} (h : FsOk s) {p : Nm × Nat} (hp : p ∈ s.now) : Live s p.2 := by
  rw [h.eq] at hp
  rcases doAll_mem hp with hp | ⟨a, ha, e⟩
  · exact Or.inl ⟨p, hp, rfl⟩
  · exact Or.inr ⟨a, ha, e⟩
theorem FsOk.live_lt {s : Fs} (h : FsOk s) {i : Nat} (hl : Live s i) : i < s.files.length := by
  rcases hl with ⟨p, hp, rfl⟩ | ⟨a, ha, e⟩
  · exact h.sureOk.lt p hp
  · exact (h.acts a ha).1 i e
theorem FsOk.nowLen {s : Fs} (h : FsOk s) : s.now.length ≤ s.steps := by
  rw [h.eq]
  have := doAll_len s.sure s.acts
  have := h.cnt
  omega
/-- How many bytes the files of some names have. -/
def usedD (fs : List Fi) : Dir → Nat
  | [] => 0
  | p :: r => (fs.getD p.2 noFi).data.length + usedD fs r
def used (s : Fs) : Nat := usedD s.files s.now
def sizeD (fs : List Fi) (l : Dir) (x : Nm) : Nat := match fnd l x with
  | none => 0
  | some i => (fs.getD i noFi).data.length
theorem usedD_wout {fs : List Fi} {l : Dir} (hr : Rise l) (x : Nm) : usedD fs (wout l x) + sizeD fs l x = usedD fs l := by
  induction l with
  | nil => rfl
  | cons p r ih =>
    obtain ⟨h1, h2⟩ := List.pairwise_cons.1 hr
    have i1 := ih h2
    by_cases e : p.1 = x
    · have hn : fnd r x = none := fnd_none.2 (fun q hq e2 => nm_irrefl x (by have := h1 q hq; rwa [e, e2] at this))
      have hw : wout (p :: r) x = wout r x := by unfold wout; rw [List.filter_cons]; simp [e]
      have hs : sizeD fs (p :: r) x = (fs.getD p.2 noFi).data.length := by unfold sizeD fnd; rw [if_pos e]
      have hs2 : sizeD fs r x = 0 := by unfold sizeD; rw [hn]
      rw [hw, hs]
      show _ = (fs.getD p.2 noFi).data.length + usedD fs r
      omega
    · have hw : wout (p :: r) x = p :: wout r x := by unfold wout; rw [List.filter_cons]; simp [e]
      have hs : sizeD fs (p :: r) x = sizeD fs r x := by unfold sizeD; conv => lhs; unfold fnd; rw [if_neg e]
      rw [hw, hs]
      show (fs.getD p.2 noFi).data.length + usedD fs (wout r x) + sizeD fs r x = (fs.getD p.2 noFi).data.length + usedD fs r
      omega
theorem usedD_ins (fs : List Fi) (x : Nm) (i : Nat) (l : Dir) : usedD fs (insD x i l) = (fs.getD i noFi).data.length + usedD fs l := by
  induction l with
  | nil => rfl
  | cons p r ih =>
    unfold insD
    split
    · rfl
    · show (fs.getD p.2 noFi).data.length + usedD fs (insD x i r) = _ + ((fs.getD p.2 noFi).data.length + usedD fs r)
      omega
theorem usedD_le {fs : List Fi} (hd : ∀ f ∈ fs, f.data.length ≤ 4194304) (l : Dir) : usedD fs l ≤ l.length * 4194304 := by
  induction l with
  | nil => exact Nat.zero_le _
  | cons p r ih =>
    have h1 : (fs.getD p.2 noFi).data.length ≤ 4194304 := by
      by_cases hp : p.2 < fs.length
      · exact hd _ (by simp [List.getD, hp])
      · have : fs.getD p.2 noFi = noFi := by simp [List.getD, List.getElem?_eq_none (Nat.le_of_not_lt hp)]
        rw [this]; simp [noFi]
    show (fs.getD p.2 noFi).data.length + usedD fs r ≤ _
    rw [List.length_cons]; omega
theorem getD_set {fs : List Fi} {i j : Nat} {f : Fi} (hi : i < fs.length) : (fs.set i f).getD j noFi = if j = i then f else fs.getD j noFi := by
  simp only [List.getD, List.getElem?_set]
  by_cases e : i = j
  · subst e; simp [hi]
  · have e2 : ¬ j = i := fun h => e h.symm
    simp [e, e2]
theorem usedD_congr {fs gs : List Fi} {l : Dir} (h : ∀ p ∈ l, (fs.getD p.2 noFi).data.length = (gs.getD p.2 noFi).data.length) : usedD fs l = usedD gs l := by
  induction l with
  | nil => rfl
  | cons p r ih =>
    show _ + _ = _ + _
    rw [h p List.mem_cons_self, ih (fun q hq => h q (List.mem_cons_of_mem _ hq))]
/-- Another file in the place of one that has just one name. -/
theorem usedD_set {fs : List Fi} {n : Nat} {l : Dir} (hok : DirOk n l) {x : Nm} {i : Nat} (hf : fnd l x = some i) (hi : i < fs.length) (f : Fi) : usedD (fs.set i f) l + (fs.getD i noFi).data.length = usedD fs l + f.data.length := by
  have hm := fnd_mem hf
  have key : ∀ l : Dir, Rise l → (x, i) ∈ l → (∀ p ∈ l, p.2 = i → p = (x, i)) → usedD (fs.set i f) l + (fs.getD i noFi).data.length = usedD fs l + f.data.length := by
    intro l
    induction l with
    | nil => intro _ h; cases h
    | cons p r ih =>
      intro hr hmem hone
      obtain ⟨h1, h2⟩ := List.pairwise_cons.1 hr
      show ((fs.set i f).getD p.2 noFi).data.length + usedD (fs.set i f) r + _ = (fs.getD p.2 noFi).data.length + usedD fs r + _
      by_cases e : p.2 = i
      · have ep := hone p List.mem_cons_self e
        have hrest : usedD (fs.set i f) r = usedD fs r := usedD_congr (fun q hq => by
          have hne : q.2 ≠ i := fun e2 => by
            have := hone q (List.mem_cons_of_mem _ hq) e2
            have h3 := h1 q hq
            rw [this, ep] at h3
            exact nm_irrefl _ h3
          rw [getD_set hi, if_neg hne])
        rw [getD_set hi, if_pos e, hrest, e]; omega
      · rw [getD_set hi, if_neg e]
        rcases List.mem_cons.1 hmem with e2 | hmem
        · exact absurd (by rw [← e2]) e
        · have := ih h2 hmem (fun q hq => hone q (List.mem_cons_of_mem _ hq))
          omega
  exact key l hok.rise hm (fun p hp e => hok.inj p hp _ hm e)
end Go.Proofs.YtgknihcpmpfocaaDoor
