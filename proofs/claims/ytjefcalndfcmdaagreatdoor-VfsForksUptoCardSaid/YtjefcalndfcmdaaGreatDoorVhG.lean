/- A fork: what is laid of it while names are gone through. -/
import Derived.Test.YtjefcalndfcmdaaGreatDoorVfP
import Derived.Test.YtjefcalndfcmdaaGreatDoorVfM
namespace Go.Proofs.YtjefcalndfcmdaaGreatDoor
open Go.RowKit Go.Maps
def fullF (f : Fi) : Fi := ⟨f.data, f.data.length⟩
def forkS (s : Fs) : Fs := { files := s.files.map fullF, now := s.now, sure := s.now, acts := [], room := s.room, steps := s.now.length, more := -1, lead := s.now.length }
theorem fullF_at (l : List Fi) (i : Nat) : (l.map fullF).getD i noFi = fullF (l.getD i noFi) := by
  by_cases h : i < l.length
  · simp [List.getD, h]
  · simp [List.getD, h, fullF, noFi]
theorem usedD_full (fs : List Fi) (l : Dir) : usedD (fs.map fullF) l = usedD fs l := usedD_congr (fun p _ => by rw [fullF_at]; rfl)
theorem forkS_ok {s : Fs} (ok : FsOk s) : FsOk (forkS s) := by
  refine ⟨rfl, fun k hk => ?_, fun a ha => (by cases ha), fun f hf => ?_, ?_, ok.room, by show (-9223372036854775808 : Int) ≤ -1; omega, by show (-1 : Int) ≤ _; omega⟩
  · have e : doAll (forkS s).sure ((forkS s).acts.take k) = s.now := by
      show doAll s.now (([] : List Ac).take k) = _
      rw [List.take_nil]; rfl
    rw [e]
    exact ok.nowOk.mono (by show s.files.length ≤ (s.files.map fullF).length; rw [List.length_map]; exact Nat.le_refl _)
  · obtain ⟨g, hg, rfl⟩ := List.mem_map.1 hf
    exact ⟨Nat.le_refl _, (ok.dat g hg).2⟩
  · show s.now.length + 0 ≤ s.now.length; omega
theorem forkS_st {s : Fs} (h : s.now.length < 16777216) : stV (forkS s) = 0 := by
  unfold stV
  show ((s.now.length : Nat) : Int) - ((s.now.length % 16777216 : Nat) : Int) = 0
  rw [Nat.mod_eq_of_lt h]; omega
theorem rowM_own {w : World} {B B' : Nat} {v : Value} {l : List UInt8} (h : Own w B v l) (hb : B' ≤ B) : RowM w B' v (bv l) := by
  rcases h.2 with ⟨e, hn⟩ | ⟨g, cap, cur, e, hB, hg, hnc, hcm, hs, _⟩
  · have : l = [] := List.length_eq_zero_iff.1 hn
    subst this
    exact Or.inl ⟨rfl, e⟩
  · refine Or.inr ⟨g, cap, by rw [bv_len]; exact e, Nat.le_trans hb hB, (Array.getElem?_eq_some_iff.1 hg).1, by rw [bv_len]; exact hnc, hcm, there_new _ _ _ _ _ _ hg (by omega) (Or.inl (Nat.le_refl _)), fun j u hj => ?_⟩
    subst e
    have := World.ownsRow.cells h rfl j u hj
    rwa [Addr.add_mid] at this
/-- The names that were gone through. -/
def doneD (l : Dir) (left : Lit → Bool) : Dir := l.filter fun p => !left (.string p.1)
theorem mem_doneD {l : Dir} {left : Lit → Bool} {p : Nm × Nat} : p ∈ doneD l left ↔ p ∈ l ∧ left (.string p.1) = false := by unfold doneD; simp [List.mem_filter]
theorem Rise.doneD {l : Dir} (h : Rise l) (left : Lit → Bool) : Rise (doneD l left) := List.Pairwise.sublist List.filter_sublist h
theorem fnd_doneD {l : Dir} (hr : Rise l) {left : Lit → Bool} {y : Nm} {j : Nat} : fnd (doneD l left) y = some j ↔ (y, j) ∈ l ∧ left (.string y) = false := by rw [fnd_iff (hr.doneD left), mem_doneD]
theorem left_next {left : Lit → Bool} {x y : Nm} : (left (.string y) && !(Lit.string y).sameKey (.string x)) = false ↔ (left (.string y) = false ∨ y = x) := by
  rw [sameKey_str]
  by_cases e : y = x
  · simp [e]
  · simp [e]
/-- One name more was gone through. -/
theorem fnd_next {l : Dir} (hr : Rise l) {left : Lit → Bool} {x : Nm} {i : Nat} (hm : (x, i) ∈ l) (y : Nm) :
    fnd (doneD l (fun z => left z && !z.sameKey (.string x))) y = if y = x then some i else fnd (doneD l left) y := by
  refine opt_ext (fun j => ?_)
  rw [fnd_doneD hr, left_next]
  by_cases e : y = x
  · subst e
    rw [if_pos rfl]
    constructor
    · rintro ⟨h1, _⟩
      have h2 := mem_fnd hr h1
      rw [mem_fnd hr hm] at h2
      exact h2
    · intro h
      injection h with h
      subst h
      exact ⟨hm, Or.inr rfl⟩
  · rw [if_neg e, fnd_doneD hr]
    constructor
    · rintro ⟨h1, h2 | h2⟩
      · exact ⟨h1, h2⟩
      · exact absurd h2 e
    · rintro ⟨h1, h2⟩
      exact ⟨h1, Or.inl h2⟩
theorem doneD_cons (p : Nm × Nat) (r : Dir) (left : Lit → Bool) : doneD (p :: r) left = if left (.string p.1) = true then doneD r left else p :: doneD r left := by
  unfold doneD
  rw [List.filter_cons]
  cases left (.string p.1) <;> simp
theorem len_next {l : Dir} (hr : Rise l) {left : Lit → Bool} {x : Nm} {i : Nat} (hm : (x, i) ∈ l) (hx : left (.string x) = true) :
    (doneD l (fun z => left z && !z.sameKey (.string x))).length = (doneD l left).length + 1 := by
  induction l with
  | nil => cases hm
  | cons p r ih =>
    obtain ⟨h1, h2⟩ := List.pairwise_cons.1 hr
    rw [doneD_cons, doneD_cons]
    have hsk : (Lit.string p.1).sameKey (.string x) = decide (p.1 = x) := sameKey_str _ _
    by_cases e : p.1 = x
    · have hrest : doneD r (fun z => left z && !z.sameKey (.string x)) = doneD r left := by
        unfold doneD
        refine List.filter_congr (fun q hq => ?_)
        have hne : ¬ q.1 = x := fun e2 => nm_irrefl x (by have := h1 q hq; rwa [e, e2] at this)
        have : (Lit.string q.1).sameKey (.string x) = false := by rw [sameKey_str]; exact decide_eq_false hne
        simp [this]
      rw [hrest]
      rw [if_neg (by rw [hsk]; simp [e]), if_pos (by rw [e]; exact hx)]
      rfl
    · have hm2 : (x, i) ∈ r := by
        rcases List.mem_cons.1 hm with e2 | e2
        · exact absurd (by rw [← e2]) e
        · exact e2
      have i1 := ih h2 hm2
      have hc : (left (.string p.1) && !(Lit.string p.1).sameKey (.string x)) = left (.string p.1) := by rw [hsk]; simp [e]
      simp only [hc]
      split
      · exact i1
      · rw [List.length_cons, List.length_cons, i1]
theorem doneD_all {l : Dir} {left : Lit → Bool} (h : ∀ kl, left kl = false) : doneD l left = l := List.filter_eq_self.2 (fun p _ => by rw [h]; rfl)
theorem doneD_none {l : Dir} {left : Lit → Bool} (h : ∀ p ∈ l, left (.string p.1) = true) : doneD l left = [] := List.filter_eq_nil_iff.2 (fun p hp => by rw [h p hp]; decide)
/-- The files laid so far, each in blocks of its own. -/
structure FkF (B : Nat) (w : World) (fs : List Fi) (T : Nat → Role) (fb : Nat → Nat) (dv : Nat → Value) (l : Dir) : Prop where
  dom : ∀ k, T k ≠ .no → B < k ∧ k < w.heap.size
  only : ∀ k, T k ≠ .fs ∧ T k ≠ .now ∧ T k ≠ .sure ∧ T k ≠ .row
  each : ∀ p ∈ l, T (fb p.2) = .file p.2 ∧ (∀ k, (dv p.2).ownBlock = some k → T k = .data p.2) ∧ w.heap[fb p.2]? = some (.cells #[dv p.2, .int .i64 ((fs.getD p.2 noFi).data.length : Int)] 78 (0, 0)) ∧ RowM w B (dv p.2) (bv (fs.getD p.2 noFi).data)
theorem FkF.kept {B : Nat} {w w' : World} {fs : List Fi} {T : Nat → Role} {fb : Nat → Nat} {dv : Nat → Value} {l : Dir} (h : FkF B w fs T fb dv l) (hk : ∀ k, T k ≠ .no → w'.heap[k]? = w.heap[k]?) (hs : w.heap.size ≤ w'.heap.size) : FkF B w' fs T fb dv l := by
  refine ⟨fun k hk => ⟨(h.dom k hk).1, Nat.lt_of_lt_of_le (h.dom k hk).2 hs⟩, h.only, fun p hp => ?_⟩
  obtain ⟨h1, h2, h3, h4⟩ := h.each p hp
  exact ⟨h1, h2, (hk _ (by rw [h1]; exact fun c => by cases c)).trans h3, h4.kept hs (fun k e => hk k (by rw [h2 k e]; exact fun c => by cases c))⟩
theorem FkF.nil {B : Nat} {w : World} (fs : List Fi) (fb : Nat → Nat) (dv : Nat → Value) : FkF B w fs (fun _ => .no) fb dv [] :=
  ⟨fun k h => absurd rfl h, fun k => ⟨nofun, nofun, nofun, nofun⟩, fun p hp => by cases hp⟩
/-- One file more: its bytes in v', its record in block nf. -/
theorem FkF.push {B : Nat} {w w' : World} {fs : List Fi} {T : Nat → Role} {fb : Nat → Nat} {dv : Nat → Value} {l l' : Dir} {i nf : Nat} {v' : Value} (h : FkF B w fs T fb dv l)
    (hl : ∀ p ∈ l', p.2 = i ∨ (p ∈ l ∧ p.2 ≠ i)) (hk : ∀ k, T k ≠ .no → w'.heap[k]? = w.heap[k]?) (hs : w.heap.size ≤ w'.heap.size)
    (hnf : w.heap.size ≤ nf ∧ nf < w'.heap.size ∧ B < nf) (hv : ∀ k, v'.ownBlock = some k → w.heap.size ≤ k ∧ k < w'.heap.size ∧ B < k ∧ k ≠ nf)
    (hb : w'.heap[nf]? = some (.cells #[v', .int .i64 ((fs.getD i noFi).data.length : Int)] 78 (0, 0))) (hr : RowM w' B v' (bv (fs.getD i noFi).data)) :
    FkF B w' fs (fun k => if k = nf then .file i else if v'.ownBlock = some k then .data i else T k) (fun j => if j = i then nf else fb j) (fun j => if j = i then v' else dv j) l' := by
  refine ⟨fun k ht => ?_, fun k => ?_, fun p hp => ?_⟩
  · try dsimp only at ht
    by_cases e1 : k = nf
    · subst e1; exact ⟨hnf.2.2, hnf.2.1⟩
    · by_cases e2 : v'.ownBlock = some k
      · exact ⟨(hv k e2).2.2.1, (hv k e2).2.1⟩
      · rw [if_neg e1, if_neg e2] at ht
        exact ⟨(h.dom k ht).1, Nat.lt_of_lt_of_le (h.dom k ht).2 hs⟩
  · by_cases e1 : k = nf
    · simp only [if_pos e1]; exact ⟨nofun, nofun, nofun, nofun⟩
    · by_cases e2 : v'.ownBlock = some k
      · simp only [if_neg e1, if_pos e2]; exact ⟨nofun, nofun, nofun, nofun⟩
      · simp only [if_neg e1, if_neg e2]; exact h.only k
  · try dsimp only
    rcases hl p hp with e | ⟨hpl, e⟩
    · rw [if_pos e, if_pos e, if_pos rfl, e]
      refine ⟨rfl, fun k hk2 => ?_, hb, hr⟩
      rw [if_neg (hv k hk2).2.2.2, if_pos hk2]
    · rw [if_neg e, if_neg e]
      obtain ⟨h1, h2, h3, h4⟩ := h.each p hpl
      have hd1 := h.dom (fb p.2) (by rw [h1]; exact fun c => by cases c)
      have key : ∀ k, T k ≠ .no → (if k = nf then Role.file i else if v'.ownBlock = some k then .data i else T k) = T k := fun k ht => by
        have hd := (h.dom k ht).2
        rw [if_neg (by omega), if_neg (fun e2 => by have := (hv k e2).1; omega)]
      refine ⟨?_, fun k hk2 => ?_, ?_, ?_⟩
      · rw [key _ (by rw [h1]; exact fun c => by cases c)]; exact h1
      · have := h2 k hk2
        rw [key k (by rw [this]; exact fun c => by cases c)]; exact this
      · exact (hk _ (by rw [h1]; exact fun c => by cases c)).trans h3
      · exact h4.kept hs (fun k e2 => hk k (by rw [h2 k e2]; exact fun c => by cases c))
/-- At the end the fork stands. -/
theorem FkF.fork {B M C bg nb db n : Nat} {w : World} {s : Fs} {T : Nat → Role} {fb : Nat → Nat} {dv : Nat → Value} {D : DataW Unit} (h : FkF B w s.files T fb dv s.now) (hB : M ≤ nb ∧ M ≤ bg ∧ M ≤ db ∧ M ≤ B) (hC : C ≤ M) (hz : bg < w.heap.size ∧ nb < w.heap.size ∧ db < w.heap.size) (hne : nb ≠ bg ∧ nb ≠ db ∧ bg ≠ db) (hT : T bg = .no ∧ T nb = .no ∧ T db = .no)
    (hblk : w.heap[bg]? = some (.cells #[.int .i64 (s.room : Int), .int .i64 (used s : Int), .map (some nb), .map (some db), .slice none 0 0, .int .i64 0, .int .i64 (-1)] 62 (0, 0)))
    (hn : MapAt w nb n D fb s.now) (hd : MapAt w db n D fb s.now) (hnn : n ≤ s.now.length) (hl : s.now.length < 16777216) :
    ∃ X, FsAt C X w bg (forkS s) ∧ ∀ k, X.T k ≠ .no → M ≤ k := by
  have hst := forkS_st hl
  have hus : used (forkS s) = used s := usedD_full _ _
  refine ⟨{ T := fun k => if k = bg then .fs else if k = nb then .now else if k = db then .sure else T k, bn := nb, bd := db, nn := n, nd := n, va := .slice none 0 0, Dn := D, Dd := D, fb := fb, dv := dv }, ⟨fun k ht => ?_, ?_, ?_, ?_, fun k e => ?_, ?_, hn, hd, hnn, ?_, World.ownsRow_nil _ _ _ _, fun i hi => ?_⟩, fun k ht => ?_⟩
  · try dsimp only at ht
    by_cases e1 : k = bg
    · omega
    · by_cases e2 : k = nb
      · omega
      · by_cases e3 : k = db
        · omega
        · rw [if_neg e1, if_neg e2, if_neg e3] at ht
          have := h.dom k ht
          omega
  · exact if_pos rfl
  · dsimp only; rw [if_neg hne.1, if_pos rfl]
  · dsimp only; rw [if_neg (fun e => hne.2.2 e.symm), if_neg (fun e => hne.2.1 e.symm), if_pos rfl]
  · cases e
  · unfold fsRow
    rw [hst, hus]
    exact hblk
  · show n + 0 ≤ s.now.length; omega
  · obtain ⟨p, hp, rfl⟩ : ∃ p ∈ s.now, p.2 = i := by
      rcases hi with ⟨p, hp, e⟩ | ⟨a, ha, _⟩
      · exact ⟨p, hp, e⟩
      · cases ha
    obtain ⟨h1, h2, h3, h4⟩ := h.each p hp
    have key : ∀ k, T k ≠ .no → (if k = bg then Role.fs else if k = nb then .now else if k = db then .sure else T k) = T k := fun k ht => by
      rw [if_neg (fun e => ht (by rw [e]; exact hT.1)), if_neg (fun e => ht (by rw [e]; exact hT.2.1)), if_neg (fun e => ht (by rw [e]; exact hT.2.2))]
    refine ⟨?_, fun k e => ?_, ?_, ?_⟩
    · show (if fb p.2 = bg then Role.fs else if fb p.2 = nb then .now else if fb p.2 = db then .sure else T (fb p.2)) = _
      rw [key _ (by rw [h1]; exact fun c => by cases c)]; exact h1
    · have e2 := h2 k e
      show (if k = bg then Role.fs else if k = nb then .now else if k = db then .sure else T k) = _
      rw [key k (by rw [e2]; exact fun c => by cases c)]; exact e2
    · show w.heap[fb p.2]? = some (.cells #[dv p.2, .int .i64 (((s.files.map fullF).getD p.2 noFi).dur : Int)] 78 (0, 0))
      rw [fullF_at]; exact h3
    · show RowM w C (dv p.2) (bv ((s.files.map fullF).getD p.2 noFi).data)
      rw [fullF_at]
      rcases h4 with h4 | ⟨g, cap, a1, a2, a3⟩
      · exact Or.inl h4
      · exact Or.inr ⟨g, cap, a1, by omega, a3⟩
  · try dsimp only at ht
    by_cases e1 : k = bg
    · omega
    · by_cases e2 : k = nb
      · omega
      · by_cases e3 : k = db
        · omega
        · rw [if_neg e1, if_neg e2, if_neg e3] at ht
          have := h.dom k ht
          omega
end Go.Proofs.YtjefcalndfcmdaaGreatDoor
