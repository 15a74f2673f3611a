/- A crash. -/
import Derived.Test.YtjefcalndfcmdaaGreatDoorVfL
namespace Go.Proofs.YtjefcalndfcmdaaGreatDoor
open Go.RowKit Go.Maps
def cutF (b : Int) (f : Fi) : Fi := ⟨f.data.take (f.dur + clampI b (f.data.length - f.dur)), f.dur + clampI b (f.data.length - f.dur)⟩
def crashS (s : Fs) (acts bytes : Int) : Fs :=
  { files := s.files.map (cutF bytes), now := doAll s.sure (s.acts.take (clampI acts s.acts.length)), sure := doAll s.sure (s.acts.take (clampI acts s.acts.length)), acts := [], room := s.room, steps := s.steps, more := -1, lead := s.lead }
theorem clampI_le (n : Int) (m : Nat) : clampI n m ≤ m := by unfold clampI; omega
theorem cutF_len {b : Int} {f : Fi} (h : f.dur ≤ f.data.length) : f.dur + clampI b (f.data.length - f.dur) ≤ f.data.length ∧ (cutF b f).data.length = f.dur + clampI b (f.data.length - f.dur) := by
  have := clampI_le b (f.data.length - f.dur)
  refine ⟨by omega, ?_⟩
  unfold cutF
  rw [List.length_take]; omega
theorem crashS_ok {s : Fs} (ok : FsOk s) (acts bytes : Int) : FsOk (crashS s acts bytes) := by
  have hl : (s.files.map (cutF bytes)).length = s.files.length := List.length_map ..
  have hd := ok.dirs _ (clampI_le acts s.acts.length)
  refine ⟨rfl, fun k hk => ?_, fun a ha => (by cases ha), fun f hf => ?_, ?_, ok.room, by show (-9223372036854775808 : Int) ≤ -1; omega, by show (-1 : Int) ≤ 9223372036854775807; omega⟩
  · show DirOk (s.files.map (cutF bytes)).length (doAll (doAll s.sure (s.acts.take (clampI acts s.acts.length))) (List.take k []))
    rw [List.take_nil, hl]; exact hd
  · obtain ⟨g, hg, rfl⟩ := List.mem_map.1 hf
    have h1 := ok.dat g hg
    have h2 := cutF_len (b := bytes) h1.1
    refine ⟨by rw [h2.2]; exact Nat.le_refl _, by rw [h2.2]; omega⟩
  · have h1 := doAll_len s.sure (s.acts.take (clampI acts s.acts.length))
    have h2 := ok.cnt
    rw [List.length_take] at h1
    show (doAll s.sure (s.acts.take (clampI acts s.acts.length))).length + 0 ≤ s.steps
    omega
theorem ranges_kept {P : Program} {k : TypeId} {R : Value → Option (DataW Unit × List MemPlace)} {w w' : World} {b r n : Nat} {D : DataW Unit} {left : Lit → Bool} {cnt : Nat} (h : w.ranges P k R b r n D left cnt) (hb : w'.heap[b]? = w.heap[b]?) (hr : w'.heap[r]? = w.heap[r]?) : w'.ranges P k R b r n D left cnt := by
  obtain ⟨es, clock, since, seen, c0, h1, F, hs, hD, h2, rest⟩ := h
  exact ⟨es, clock, since, seen, c0, hb.trans h1, F, hs, hD, hr.trans h2, rest⟩
def mkK (x : Nm) : Value := .string ⟨x.toArray⟩
def mkV (o : Option Nat) : Value := .pointer (o.map fun b => ⟨b, 0, none⟩)
theorem keyOf_str_inv {key : Value} {kl : Lit} (h : keyOf Tryz.prog 9 key = some kl) : ∃ x : Nm, key = mkK x ∧ kl = .string x := by
  cases key <;> simp [keyOf, Tryz.underlying9, mapKey] at h
  rename_i s
  obtain ⟨_, rfl⟩ := h
  exact ⟨s.data.toList, by unfold mkK; simp, rfl⟩
theorem ptrR_inv {v : Value} {y : DataW Unit × List MemPlace} (h : ptrR v = some y) : ∃ c, v = mkV c := by
  unfold ptrR at h
  split at h
  · exact ⟨none, rfl⟩
  · exact ⟨some _, rfl⟩
  · cases h
/-- An entry of a map of names. -/
theorem entry_of {w : World} {b n : Nat} {D : DataW Unit} {fb : Nat → Nat} {l : Dir} (h : MapAt w b n D fb l) {x : Nm} {c : Option Nat} {y : DataW Unit × List MemPlace} (hy : ptrR (mkV c) = some y) (hat : ∀ zd, D.atKey (.string x) zd = y.1) : ∃ i, (x, i) ∈ l ∧ c = some (fb i) := by
  have h1 := h.at_ x
  unfold fndB at h1
  cases hf : fnd l x with
  | none =>
    rw [hf] at h1
    have h2 := (hat (.lit (.int .i64 0))).symm.trans (h1 _)
    have h3 := (hat (.lit (.int .i64 1))).symm.trans (h1 _)
    rw [h2] at h3
    simp at h3
  | some i =>
    rw [hf] at h1
    have h2 := (hat (.lit (.int .i64 0))).symm.trans (h1 _)
    refine ⟨i, fnd_mem hf, ?_⟩
    cases c with
    | none =>
      have e : y = (.lit (.int .i64 (-1)), []) := by
        have : ptrR (mkV none) = some (.lit (.int .i64 (-1)), []) := rfl
        rw [this] at hy; injection hy with hy; exact hy.symm
      rw [e] at h2
      simp at h2
    | some k =>
      have e : y = (.lit (.int .i64 (k : Int)), []) := by
        have : ptrR (mkV (some k)) = some (.lit (.int .i64 (k : Int)), []) := rfl
        rw [this] at hy; injection hy with hy; exact hy.symm
      rw [e] at h2
      simp at h2
      have : k = fb i := by omega
      rw [this]
theorem has_name {w : World} {b n : Nat} {D : DataW Unit} {fb : Nat → Nat} {l : Dir} (h : MapAt w b n D fb l) (hr : Rise l) {p : Nm × Nat} (hp : p ∈ l) : Maps.has D (.string p.1) = true := by
  cases e : Maps.has D (.string p.1) with
  | true => rfl
  | false =>
    have h1 := atKey_of_not_has e (.lit (.int .i64 (-1)))
    rw [h.at_] at h1
    unfold fndB at h1
    rw [mem_fnd hr (show (p.1, p.2) ∈ l from hp)] at h1
    simp at h1
theorem sameKey_str (a b : Nm) : (Lit.string a).sameKey (.string b) = decide (a = b) := by
  show (a == b) = _
  by_cases h : a = b
  · rw [decide_eq_true h]; exact beq_iff_eq.2 h
  · rw [decide_eq_false h]; exact beq_eq_false_iff_ne.2 h
/-- A file, cut or still to be cut. -/
def stageF (b : Int) (left : Lit → Bool) (fs : List Fi) (p : Nm × Nat) : Fi := if left (.string p.1) = true then fs.getD p.2 noFi else cutF b (fs.getD p.2 noFi)
def doneU (b : Int) (left : Lit → Bool) (fs : List Fi) : Dir → Nat
  | [] => 0
  | p :: r => (if left (.string p.1) = true then 0 else (cutF b (fs.getD p.2 noFi)).data.length) + doneU b left fs r
theorem doneU_start {b : Int} {left : Lit → Bool} {fs : List Fi} {l : Dir} (h : ∀ p ∈ l, left (.string p.1) = true) : doneU b left fs l = 0 := by
  induction l with
  | nil => rfl
  | cons p r ih =>
    show (if left (.string p.1) = true then 0 else _) + doneU b left fs r = 0
    rw [if_pos (h p List.mem_cons_self), ih (fun q hq => h q (List.mem_cons_of_mem _ hq))]
theorem doneU_end {b : Int} {left : Lit → Bool} {fs : List Fi} {l : Dir} (h : ∀ kl, left kl = false) (hl : ∀ p ∈ l, p.2 < fs.length) : doneU b left fs l = usedD (fs.map (cutF b)) l := by
  induction l with
  | nil => rfl
  | cons p r ih =>
    show (if left (.string p.1) = true then 0 else _) + doneU b left fs r = ((fs.map (cutF b)).getD p.2 noFi).data.length + usedD (fs.map (cutF b)) r
    rw [if_neg (by rw [h]; decide), ih (fun q hq => hl q (List.mem_cons_of_mem _ hq))]
    have e : (fs.map (cutF b)).getD p.2 noFi = cutF b (fs.getD p.2 noFi) := by
      have := hl p List.mem_cons_self
      simp [List.getD, this]
    rw [e]
theorem doneU_step {b : Int} {left : Lit → Bool} {fs : List Fi} {l : Dir} (hr : Rise l) {x : Nm} {i : Nat} (hm : (x, i) ∈ l) (hx : left (.string x) = true) :
    doneU b (fun z => left z && !z.sameKey (.string x)) fs l = doneU b left fs l + (cutF b (fs.getD i noFi)).data.length := by
  induction l with
  | nil => cases hm
  | cons p r ih =>
    obtain ⟨h1, h2⟩ := List.pairwise_cons.1 hr
    show (if (left (.string p.1) && !(Lit.string p.1).sameKey (.string x)) = true then 0 else _) + doneU b (fun z => left z && !z.sameKey (.string x)) fs r = (if left (.string p.1) = true then 0 else _) + doneU b left fs r + _
    rw [sameKey_str]
    rcases List.mem_cons.1 hm with e | hm
    · have e1 : p.1 = x := by rw [← e]
      have e2 : p.2 = i := by rw [← e]
      have hrest : doneU b (fun z => left z && !z.sameKey (.string x)) fs r = doneU b left fs r := by
        have hne : ∀ q ∈ r, q.1 ≠ x := fun q hq e3 => nm_irrefl x (by have := h1 q hq; rwa [e1, e3] at this)
        clear ih hm hr h1 h2
        induction r with
        | nil => rfl
        | cons q t ih =>
          show (if (left (.string q.1) && !(Lit.string q.1).sameKey (.string x)) = true then 0 else _) + _ = (if left (.string q.1) = true then 0 else _) + _
          rw [sameKey_str, decide_eq_false (hne q List.mem_cons_self), ih (fun z hz => hne z (List.mem_cons_of_mem _ hz))]
          simp
      rw [hrest, e1, e2, decide_eq_true rfl, hx]
      simp
      omega
    · have hne : p.1 ≠ x := fun e => nm_irrefl x (by have := h1 _ hm; rwa [e] at this)
      rw [decide_eq_false hne, ih h2 hm]
      simp
      omega
theorem doneU_le {b : Int} {left : Lit → Bool} {fs : List Fi} {l : Dir} (hd : ∀ f ∈ fs, f.dur ≤ f.data.length ∧ f.data.length ≤ 4194304) : doneU b left fs l ≤ l.length * 4194304 := by
  induction l with
  | nil => exact Nat.zero_le _
  | cons p r ih =>
    show (if left (.string p.1) = true then 0 else (cutF b (fs.getD p.2 noFi)).data.length) + doneU b left fs r ≤ _
    have h1 : (cutF b (fs.getD p.2 noFi)).data.length ≤ 4194304 := by
      have h2 : (fs.getD p.2 noFi).dur ≤ (fs.getD p.2 noFi).data.length ∧ (fs.getD p.2 noFi).data.length ≤ 4194304 := by
        by_cases hp : p.2 < fs.length
        · exact hd _ (getD_mem hp)
        · have : fs.getD p.2 noFi = noFi := by simp [List.getD, List.getElem?_eq_none (Nat.le_of_not_lt hp)]
          rw [this]; exact ⟨Nat.le_refl _, Nat.zero_le _⟩
      have h3 := cutF_len (b := b) h2.1
      rw [h3.2]; omega
    rw [List.length_cons]
    split <;> omega
theorem crash_fin {B : Nat} {X : FsX} {w wF : World} {bf nb : Nat} {s s1 : Fs} {ca cb : Int} {d : Dir} {dvF : Nat → Value} (h : FsAt B X w bf s1) (ok : FsOk s) (hd : doAll s.sure (s.acts.take (clampI ca s.acts.length)) = d) (hs1 : s1.sure = d) (hst : s1.steps = s.steps)
    (hnb : w.heap.size ≤ nb ∧ nb < wF.heap.size) (hB : B ≤ nb) (hm : MapAt wF nb X.nd X.Dd X.fb d)
    (hb : wF.heap[bf]? = some (.cells #[.int .i64 (s.room : Int), .int .i64 (usedD (s.files.map (cutF cb)) d : Int), .map (some nb), .map (some X.bd), X.va, .int .i64 (stV s), .int .i64 (-1)] 62 (0, 0)))
    (hva : s1.acts = [])
    (hF : Far (fun q => q = bf ∨ w.heap.size ≤ q ∨ ∃ i, X.T q = .file i) w wF)
    (hfl : ∀ p ∈ d, wF.heap[X.fb p.2]? = some (.cells #[dvF p.2, .int .i64 ((cutF cb (s.files.getD p.2 noFi)).dur : Int)] 78 (0, 0)) ∧ RowM wF B (dvF p.2) (bv (cutF cb (s.files.getD p.2 noFi)).data) ∧ ∀ k, (dvF p.2).ownBlock = some k → (X.dv p.2).ownBlock = some k) :
    ∃ X', FsAt B X' wF bf (crashS s ca cb) ∧ ∀ k, X'.T k ≠ .no → X.T k ≠ .no ∨ w.heap.size ≤ k := by
  have hlt : ∀ k, X.T k ≠ .no → k < w.heap.size := fun k ht => (h.dom k ht).2
  have hT : ∀ k, k < w.heap.size → (if k = nb then Role.now else X.T k) = X.T k := fun k hk => if_neg (by omega)
  have key : ∀ k r, X.T k = r → r ≠ .no → (if k = nb then Role.now else X.T k) = r := fun k r e h1 => by rw [hT k (hlt k (by rw [e]; exact h1)), e]
  have hok := ok.dirs _ (clampI_le ca s.acts.length)
  rw [hd] at hok
  have hcs : (crashS s ca cb).now = d := hd
  have hcs2 : (crashS s ca cb).sure = d := hd
  have hu : used (crashS s ca cb) = usedD (s.files.map (cutF cb)) d := by
    show usedD (s.files.map (cutF cb)) (crashS s ca cb).now = _
    rw [hcs]
  have hK : ∀ k r, X.T k = r → r ≠ .no → r ≠ .fs → (∀ i, r ≠ .file i) → wF.heap[k]? = w.heap[k]? := fun k r e h1 h2 h3 => hF.block k (hlt k (by rw [e]; exact h1)) (by
    rintro (e2 | e2 | ⟨i, e2⟩)
    · rw [e2, h.tf] at e; exact h2 e.symm
    · have := hlt k (by rw [e]; exact h1); omega
    · exact h3 i (e.symm.trans e2))
  refine ⟨{ X with T := fun k => if k = nb then .now else X.T k, bn := nb, nn := X.nd, Dn := X.Dd, dv := dvF }, ⟨fun k ht => ?_, key _ _ h.tf (fun c => by cases c), if_pos rfl, key _ _ h.td (fun c => by cases c), fun k e => key _ _ (h.tr k e) (fun c => by cases c), ?_, ?_, ?_, ?_, ?_, ?_, fun i hi => ?_⟩, fun k ht => ?_⟩
  · by_cases e : k = nb
    · rw [e]; exact ⟨hB, hnb.2⟩
    · have ht2 : X.T k ≠ .no := fun c => ht (by show (if k = nb then Role.now else X.T k) = _; rw [if_neg e]; exact c)
      exact ⟨(h.dom k ht2).1, Nat.lt_of_lt_of_le (h.dom k ht2).2 hF.size⟩
  · unfold fsRow
    rw [hu]; exact hb
  · rw [hcs]; exact hm
  · rw [hcs2, ← hs1]
    exact h.md.kept (hK _ _ h.td (fun c => by cases c) (fun c => by cases c) (fun i c => by cases c))
  · have := h.hd; show X.nd ≤ s.steps; rw [← hst]; omega
  · have := h.hd; show X.nd + 0 ≤ s.steps; rw [← hst]; omega
  · have h1 := h.row
    rw [hva] at h1
    exact row_kept h1 (fun k e => hK k _ (h.tr k e) (fun c => by cases c) (fun c => by cases c) (fun i c => by cases c))
  · have hp : ∃ p ∈ d, p.2 = i := by
      rcases hi with ⟨p, hp, e⟩ | ⟨a, ha, _⟩
      · exact ⟨p, by rw [← hcs2]; exact hp, e⟩
      · cases ha
    obtain ⟨p, hp, rfl⟩ := hp
    have hf := h.fil p.2 (Or.inl ⟨p, by rw [hs1]; exact hp, rfl⟩)
    obtain ⟨a1, a2, a3⟩ := hfl p hp
    have e : (crashS s ca cb).files.getD p.2 noFi = cutF cb (s.files.getD p.2 noFi) := by
      have h1 := hok.lt p hp
      show (s.files.map (cutF cb)).getD p.2 noFi = _
      simp [List.getD, h1]
    refine ⟨key _ _ hf.tb (fun c => by cases c), fun k ek => key _ _ (hf.tv k (a3 k ek)) (fun c => by cases c), ?_, ?_⟩
    · rw [e]; exact a1
    · rw [e]; exact a2
  · by_cases e : k = nb
    · right; omega
    · left
      intro c
      exact ht (by show (if k = nb then Role.now else X.T k) = _; rw [if_neg e]; exact c)
end Go.Proofs.YtjefcalndfcmdaaGreatDoor
