/- A file that was made durable, whose name was, stays (mathematics). -/
import Derived.Test.YtjefcalndfcmdaaGreatDoorVgX
namespace Go.Proofs.YtjefcalndfcmdaaGreatDoor
def nSure : Nm := [115, 117, 114, 101]
def nUns : Nm := [117, 110, 115, 117, 114, 101]
/-- The sure file is there with its bytes, durably; the other name never was given. -/
structure Inv (s : Fs) (t : Nm) (i : Nat) : Prop where
  sure : fnd s.sure nSure = some i
  uns : fnd s.sure nUns = none
  acts : ∀ a ∈ s.acts, a.gone ≠ nSure ∧ a.come ≠ nSure ∧ a.gone ≠ nUns ∧ a.come ≠ nUns
  file : s.files.getD i noFi = ⟨t, t.length⟩
theorem fnd_doAll {l : Dir} (hr : Rise l) {A : List Ac} {x : Nm} (h : ∀ a ∈ A, a.gone ≠ x ∧ a.come ≠ x) : fnd (doAll l A) x = fnd l x := by
  induction A generalizing l with
  | nil => rfl
  | cons a r ih =>
    show fnd (doAll (doA l a) r) x = _
    rw [ih (hr.doA a) (fun b hb => h b (List.mem_cons_of_mem _ hb)), fnd_doA hr]
    obtain ⟨h1, h2⟩ := h a List.mem_cons_self
    cases a.file with
    | none => exact if_neg (fun e => h1 e.symm)
    | some j => dsimp only; rw [if_neg (fun e => h2 e.symm), if_neg (fun e => h1 e.symm)]
theorem Inv.take {s : Fs} {t : Nm} {i : Nat} (ok : FsOk s) (h : Inv s t i) (k : Nat) : fnd (doAll s.sure (s.acts.take k)) nSure = some i ∧ fnd (doAll s.sure (s.acts.take k)) nUns = none := by
  have hm : ∀ a ∈ s.acts.take k, a ∈ s.acts := fun a ha => List.mem_of_mem_take ha
  refine ⟨?_, ?_⟩
  · rw [fnd_doAll ok.sureOk.rise (fun a ha => ⟨(h.acts a (hm a ha)).1, (h.acts a (hm a ha)).2.1⟩)]; exact h.sure
  · rw [fnd_doAll ok.sureOk.rise (fun a ha => ⟨(h.acts a (hm a ha)).2.2.1, (h.acts a (hm a ha)).2.2.2⟩)]; exact h.uns
theorem Inv.now {s : Fs} {t : Nm} {i : Nat} (ok : FsOk s) (h : Inv s t i) : fnd s.now nSure = some i ∧ fnd s.now nUns = none := by
  have := h.take ok s.acts.length
  rw [List.take_length, ← ok.eq] at this
  exact this
theorem Inv.lt {s : Fs} {t : Nm} {i : Nat} (ok : FsOk s) (h : Inv s t i) : i < s.files.length := ok.sureOk.lt _ (fnd_mem h.sure)
theorem Inv.other {s : Fs} {t : Nm} {i j : Nat} (ok : FsOk s) (h : Inv s t i) {x : Nm} (hx : x ≠ nSure) (hf : fnd s.now x = some j) : j ≠ i := fun e => by
  have h1 := ok.nowOk.inj _ (fnd_mem hf) _ (fnd_mem (h.now ok).1) e
  exact hx (congrArg Prod.fst h1)
theorem Inv.set {s : Fs} {t : Nm} {i j : Nat} (h : Inv s t i) (hj : j ≠ i) (hl : j < s.files.length) (f : Fi) : Inv (putF (tick s) j f) t i := by
  refine ⟨h.sure, h.uns, h.acts, ?_⟩
  show (s.files.set j f).getD i noFi = _
  rw [getD_set hl, if_neg (fun e => hj e.symm)]
  exact h.file
theorem Inv.chg {s : Fs} {t : Nm} {i : Nat} (h : Inv s t i) {a : Ac} (ha : a.gone ≠ nSure ∧ a.come ≠ nSure ∧ a.gone ≠ nUns ∧ a.come ≠ nUns) : Inv (chg (tick s) a) t i := by
  refine ⟨h.sure, h.uns, fun b hb => ?_, h.file⟩
  have hb2 : b ∈ s.acts ++ [a] := hb
  rcases List.mem_append.1 hb2 with hb | hb
  · exact h.acts b hb
  · rw [List.mem_singleton.1 hb]; exact ha
theorem Inv.new {s : Fs} {t : Nm} {i : Nat} (ok : FsOk s) (h : Inv s t i) : Inv (newF s) t i := by
  refine ⟨h.sure, h.uns, h.acts, ?_⟩
  show (s.files ++ [noFi]).getD i noFi = _
  have hl := h.lt ok
  rw [← h.file]
  simp [List.getD, List.getElem?_append_left hl]
theorem cutF_full (b : Int) (t : Nm) : cutF b ⟨t, t.length⟩ = ⟨t, t.length⟩ := by
  unfold cutF
  dsimp only
  have : clampI b (t.length - t.length) = 0 := by have := clampI_le b (t.length - t.length); omega
  rw [this]; simp
theorem getD_map (b : Int) (l : List Fi) (i : Nat) : (l.map (cutF b)).getD i noFi = if i < l.length then cutF b (l.getD i noFi) else noFi := by
  by_cases h : i < l.length
  · simp [List.getD, h]
  · simp [List.getD, h]
theorem Inv.crash {s : Fs} {t : Nm} {i : Nat} (ok : FsOk s) (h : Inv s t i) (a b : Int) : Inv (crashS s a b) t i := by
  have h1 := h.take ok (clampI a s.acts.length)
  refine ⟨h1.1, h1.2, fun a ha => (by cases ha), ?_⟩
  show (s.files.map (cutF b)).getD i noFi = _
  rw [getD_map, if_pos (h.lt ok), h.file, cutF_full]
theorem Inv.op {s : Fs} {t : Nm} {i : Nat} (ok : FsOk s) (h : Inv s t i) (o : OpL) (h1 : o.name ≠ nSure) (h2 : o.dest ≠ nSure) (h3 : o.name ≠ nUns) (h4 : o.dest ≠ nUns) : Inv (opS s o).1 t i := by
  have e1 : ([] : Nm) ≠ nSure := by decide
  have e2 : ([] : Nm) ≠ nUns := by decide
  have file : ∀ {x : Nm} {j : Nat}, x ≠ nSure → fnd s.now x = some j → j ≠ i ∧ j < s.files.length := fun hx hf => ⟨h.other ok hx hf, ok.nowOk.lt _ (fnd_mem hf)⟩
  unfold opS
  split
  · unfold createS
    split
    · exact h
    split
    · exact h
    split
    · exact h
    · exact (h.new ok).chg ⟨e1, h1, e2, h3⟩
  split
  · unfold appendS
    split
    · exact h
    rename_i hf
    split
    · exact h
    split
    · exact h
    · exact h.set (file h1 hf).1 (file h1 hf).2 _
  split
  · unfold cutS
    split
    · exact h
    rename_i hf
    split
    · exact h
    split
    · exact h
    · exact h.set (file h1 hf).1 (file h1 hf).2 _
  split
  · unfold syncS
    split
    · exact h
    rename_i hf
    split
    · exact h
    · exact h.set (file h1 hf).1 (file h1 hf).2 _
  split
  · unfold renameS
    split
    · exact h
    split
    · exact h
    split
    · exact h
    split
    · exact h
    · exact h.chg ⟨h1, h2, h3, h4⟩
  split
  · unfold removeS
    split
    · exact h
    split
    · exact h
    · exact h.chg ⟨h1, e1, h3, e2⟩
  split
  · unfold flushS
    split
    · exact h
    · have hn := h.take ok s.acts.length
      exact ⟨hn.1, hn.2, fun a ha => (by cases ha), h.file⟩
  split
  · exact h.crash ok _ _
  split
  · exact ⟨h.sure, h.uns, h.acts, h.file⟩
  exact h
theorem Inv.read {s : Fs} {t : Nm} {i : Nat} (ok : FsOk s) (h : Inv s t i) : readS s nSure = (t, 0) := by
  unfold readS
  rw [(h.now ok).1]
  dsimp only
  rw [h.file]
/-- At the end of the script. -/
theorem sure_end {s : Fs} {t : Nm} {i : Nat} (ok : FsOk s) (h : Inv s t i) :
    ∃ s2, createS { s with more := -1 } nUns = (s2, 0) ∧ (∀ f, readS (crashS s2 0 f) nSure = (t, 0) ∧ (readS (crashS s2 0 f) nUns).2 = 4 ∧ ∀ a, readS (crashS (crashS s2 0 f) a f) nSure = (t, 0)) := by
  have ok1 : FsOk ({ s with more := -1 } : Fs) := ok.stop (by omega)
  have h1 : Inv ({ s with more := -1 } : Fs) t i := ⟨h.sure, h.uns, h.acts, h.file⟩
  have hck : checkN nUns = 0 := by decide +kernel
  have hcr : createS { s with more := -1 } nUns = (chg (tick (newF { s with more := -1 })) ⟨[], nUns, some s.files.length⟩, 0) := by
    unfold createS
    rw [if_neg (by rw [hck]; simp), if_neg (by rw [(h1.now ok1).2]; simp), if_neg (by show ¬ ((-1 : Int) = 0); decide)]
  have ok2 := createS_ok ok1 nUns
  rw [hcr] at ok2
  refine ⟨_, hcr, fun f => ?_⟩
  have h2 := h1.new ok1
  have hI : Inv (crashS (chg (tick (newF { s with more := -1 })) ⟨[], nUns, some s.files.length⟩) 0 f) t i := by
    have e : ∀ A : List Ac, doAll s.sure (A.take (clampI 0 A.length)) = s.sure := fun A => by
      have h3 : clampI 0 A.length = 0 := by unfold clampI; omega
      rw [h3]; rfl
    refine ⟨?_, ?_, fun a ha => (by cases ha), ?_⟩
    · exact (congrArg (fun l => fnd l nSure) (e (chg (tick (newF { s with more := -1 })) ⟨[], nUns, some s.files.length⟩).acts)).trans h.sure
    · exact (congrArg (fun l => fnd l nUns) (e (chg (tick (newF { s with more := -1 })) ⟨[], nUns, some s.files.length⟩).acts)).trans h.uns
    · show ((s.files ++ [noFi]).map (cutF f)).getD i noFi = _
      have hl := h.lt ok
      have h4 := h2.file
      have h5 : (s.files ++ [noFi]).getD i noFi = ⟨t, t.length⟩ := h4
      rw [getD_map, if_pos (by simp; omega), h5, cutF_full]
  have ok3 := crashS_ok ok2 0 f
  refine ⟨hI.read ok3, ?_, fun a => (hI.crash ok3 a f).read (crashS_ok ok3 a f)⟩
  unfold readS
  rw [(hI.now ok3).2]
/-- The beginning: the sure file is made. -/
def su1 (R : Nat) : Fs := ⟨[noFi], [(nSure, 0)], [], [⟨[], nSure, some 0⟩], R, 1, -1⟩
def su2 (R : Nat) (t : Nm) : Fs := ⟨[⟨t, 0⟩], [(nSure, 0)], [], [⟨[], nSure, some 0⟩], R, 2, -1⟩
def su3 (R : Nat) (t : Nm) : Fs := ⟨[⟨t, t.length⟩], [(nSure, 0)], [], [⟨[], nSure, some 0⟩], R, 3, -1⟩
def su4 (R : Nat) (t : Nm) : Fs := ⟨[⟨t, t.length⟩], [(nSure, 0)], [(nSure, 0)], [], R, 4, -1⟩
theorem sure_create (R : Nat) : createS (newS R) nSure = (su1 R, 0) := by
  have hck : checkN nSure = 0 := by decide +kernel
  unfold createS
  rw [if_neg (by rw [hck]; simp), if_neg (by simp [newS, fnd]), if_neg (by show ¬ ((-1 : Int) = 0); decide)]
  rfl
theorem sure_append (R : Nat) (t : Nm) (ht : t.length ≤ R) : appendS (su1 R) nSure t = (su2 R t, 0) := by
  have hf : fnd (su1 R).now nSure = some 0 := by
    show fnd [(nSure, 0)] nSure = some 0
    decide +kernel
  have hu : used (su1 R) = 0 := rfl
  unfold appendS
  rw [hf]
  dsimp only
  rw [if_neg (by rw [hu]; show ¬ (R : Int) - ((0 : Nat) : Int) < _; omega), if_neg (by show ¬ ((-1 : Int) = 0); decide)]
  show (({ (tick (su1 R)) with files := [(⟨[] ++ t, 0⟩ : Fi)] } : Fs), (0 : Int)) = _
  rfl
theorem sure_sync (R : Nat) (t : Nm) : syncS (su2 R t) nSure = (su3 R t, 0) := by
  have hf : fnd (su2 R t).now nSure = some 0 := by
    show fnd [(nSure, 0)] nSure = some 0
    decide +kernel
  unfold syncS
  rw [hf]
  dsimp only
  rw [if_neg (by show ¬ ((-1 : Int) = 0); decide)]
  rfl
theorem sure_flush (R : Nat) (t : Nm) : flushS (su3 R t) = (su4 R t, 0) := by
  unfold flushS
  rw [if_neg (by show ¬ ((-1 : Int) = 0); decide)]
  rfl
theorem sure_begin (R : Nat) (t : Nm) : Inv (su4 R t) t 0 := by
  refine ⟨?_, ?_, fun a ha => (by cases ha), rfl⟩
  · show fnd [(nSure, 0)] nSure = some 0
    decide +kernel
  · show fnd [(nSure, 0)] nUns = none
    decide +kernel
end Go.Proofs.YtjefcalndfcmdaaGreatDoor
