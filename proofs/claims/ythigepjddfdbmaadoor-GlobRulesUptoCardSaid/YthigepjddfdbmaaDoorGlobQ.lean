/- awake. What patterns mean, reckoned. -/
import Derived.Test.YthigepjddfdbmaaDoorGlobP
namespace Go.Proofs.YthigepjddfdbmaaDoor
open Go.RowKit Go.Lib

def starB {α : Type} (p : List α → Bool) : List α → Bool
  | [] => p []
  | a :: t => p (a :: t) || starB p t
def mtB {α : Type} : List (Option (α → Bool)) → List α → Bool
  | [], l => l.isEmpty
  | some f :: r, l => match l with
    | [] => false
    | a :: t => f a && mtB r t
  | none :: r, l => starB (mtB r) l
theorem starB_iff {α : Type} {r : List (Option (α → Bool))} {p : List α → Bool} (hp : ∀ l, p l = true ↔ Mt r l) : ∀ l, starB p l = true ↔ Mt (none :: r) l
  | [] => by rw [mt_many_nil]; exact hp []
  | a :: t => by
    rw [mt_many_cons, ← hp (a :: t), ← starB_iff hp t]
    show (p (a :: t) || starB p t) = true ↔ _
    rw [Bool.or_eq_true]
theorem mtB_iff {α : Type} : ∀ (r : List (Option (α → Bool))) (l : List α), mtB r l = true ↔ Mt r l
  | [], l => by rw [mt_nil]; show l.isEmpty = true ↔ _; simp
  | some f :: r, [] => ⟨fun h => (by cases h), fun h => absurd h mt_one_nil⟩
  | some f :: r, a :: t => by
    rw [mt_one_cons, ← mtB_iff r t]
    show (f a && mtB r t) = true ↔ _
    rw [Bool.and_eq_true]
  | none :: r, l => starB_iff (mtB_iff r) l
def matchB (ps : List PieceN) (L : List Txt) : Bool := mtB (ps.map (Option.map fun l x => mtB (itemsS l) x)) L
theorem meansB_eq (l : List (Option S4)) : meansB l = fun x => mtB (itemsS l) x := by
  funext x
  have h1 := meansB_iff l x
  have h2 := mtB_iff (itemsS l) x
  cases ha : meansB l x <;> cases hb : mtB (itemsS l) x <;> simp_all
theorem matchB_iff (ps : List PieceN) (L : List Txt) : matchB ps L = true ↔ Mt (itemsP ps) L := by
  unfold matchB itemsP
  rw [mtB_iff]
  have : (meansB : List (Option S4) → Txt → Bool) = fun l x => mtB (itemsS l) x := by funext l; exact meansB_eq l
  rw [this]
def passM (rs : List RuleN) (l : List Txt) : Bool := passB rs (fun k => matchB (psK rs k) l)
theorem passN_eq (rs : List RuleN) (l : List Txt) : passN rs l = passM rs l := by
  unfold passN passM
  congr 1
  funext k
  unfold endsN
  have h := matchB_iff (psK rs k) l
  cases hb : matchB (psK rs k) l with
  | true => exact @decide_eq_true _ (Classical.propDecidable _) (h.1 hb)
  | false => exact @decide_eq_false _ (Classical.propDecidable _) (fun hm => by rw [h.2 hm] at hb; cases hb)
def skipsB (rs : List RuleN) (s : Txt) : Bool := ((s.isEmpty || s.getD 0 0 == 47) && passM rs []) || (List.range (namesL s).length).any fun i => !(i == 0 && ((namesL s).getD 0 []).isEmpty) && passM rs ((namesL s).take (i + 1))
theorem skipsB_iff (rs : List RuleN) (s : Txt) : skipsB rs s = true ↔ SkipsP rs s := by
  unfold skipsB SkipsP AheadP HitP
  rw [Bool.or_eq_true, Bool.and_eq_true, passN_eq, List.any_eq_true]
  refine or_congr (and_congr (by simp) Iff.rfl) ?_
  constructor
  · rintro ⟨i, hi, h⟩
    rw [Bool.and_eq_true] at h
    refine ⟨i, by simpa using hi, fun e => ?_, by rw [passN_eq]; exact h.2⟩
    have := h.1
    rw [e.1, e.2] at this
    cases this
  · rintro ⟨i, h1, h2, h3⟩
    refine ⟨i, by simpa using h1, ?_⟩
    rw [Bool.and_eq_true, ← passN_eq]
    refine ⟨?_, h3⟩
    by_cases e : i = 0
    · subst e
      by_cases e2 : (namesL s).getD 0 [] = []
      · exact absurd ⟨rfl, e2⟩ h2
      · cases hg : (namesL s).getD 0 [] with
        | nil => exact absurd hg e2
        | cons a b => rfl
    · have : (i == 0) = false := beq_eq_false_iff_ne.2 e
      rw [this]; rfl
/-- What a text is parsed to, or none. -/
def okN (r : Except Int (List PieceN)) : Option (List PieceN) := match r with
  | .ok l => some l
  | .error _ => none
def okR (r : Except (Int × Nat) (List RuleN)) : Option (List RuleN) := match r with
  | .ok l => some l
  | .error _ => none
def aw1 : Txt := [42, 42, 47, 97, 42, 46, 91, 99, 104, 93]
def aw2 : Txt := [97, 91, 98]
def aw3 : List Txt := [[42, 46, 111], [33, 107, 101, 101, 112, 46, 111]]
def awP : List PieceN := (okN (parseN aw1)).getD []
def awR : List RuleN := (okR (newGo 0 aw3)).getD []
set_option maxRecDepth 100000 in
theorem awP_ok : parseN aw1 = .ok awP := by
  have h : (okN (parseN aw1)).isSome = true := by decide +kernel
  unfold awP
  cases hp : parseN aw1 with
  | error c => rw [hp] at h; cases h
  | ok l => rfl
set_option maxRecDepth 100000 in
theorem awE : parseN aw2 = .error 60 := by
  have h : (match parseN aw2 with | .error c => c == 60 | .ok _ => false) = true := by decide +kernel
  cases hp : parseN aw2 with
  | error c => rw [hp] at h; simp at h; rw [h]
  | ok l => rw [hp] at h; cases h
set_option maxRecDepth 100000 in
theorem awR_ok : newGo 0 aw3 = .ok awR := by
  have h : (okR (newGo 0 aw3)).isSome = true := by decide +kernel
  unfold awR
  cases hp : newGo 0 aw3 with
  | error c => rw [hp] at h; cases h
  | ok l => rfl
theorem awM1 : matchB awP (namesL [120, 47, 121, 47, 97, 98, 99, 46, 99]) = true := by decide +kernel
theorem awM2 : matchB awP (namesL [97, 46, 104]) = true := by decide +kernel
theorem awM3 : matchB awP (namesL [97, 47, 98, 46, 99]) = false := by decide +kernel
theorem awS1 : skipsB awR [97, 46, 111] = true := by decide +kernel
theorem awS2 : skipsB awR [107, 101, 101, 112, 46, 111] = false := by decide +kernel
theorem awS3 : skipsB awR [97, 46, 111, 47, 98] = true := by decide +kernel
theorem TruthP.yes {P : Prop} (h : P) {w w' : World} {e : Ending} (hT : TruthP P w e w') : e = .returned (.bool true) ∧ Below w.heap.size w w' := by
  obtain ⟨r, rfl, h1, h2⟩ := hT
  rw [h1.2 h]; exact ⟨rfl, h2⟩
theorem TruthP.no {P : Prop} (h : ¬ P) {w w' : World} {e : Ending} (hT : TruthP P w e w') : e = .returned (.bool false) ∧ Below w.heap.size w w' := by
  obtain ⟨r, rfl, h1, h2⟩ := hT
  cases r with
  | true => exact absurd (h1.1 rfl) h
  | false => exact ⟨rfl, h2⟩
theorem match_yes (S : Nat → Prop) (pb : Nat) (ps : List PieceN) (s : Txt) (w : World) (hS : ∀ k, S k → k < w.heap.size) (h : PatAt S w pb ps) (hE : PEnv w) (hs : s.length ≤ 4194300) {b : Bool} (hb : matchB ps (namesL s) = b) :
    Calls Tryd.prog 12 #[.pointer (some ⟨pb, 0, none⟩), .string ⟨s.toArray⟩] w fun e w' => e = .returned (.bool b) ∧ Below w.heap.size w w' :=
  (match_any S pb ps s w hS h hE hs).mono fun e w' hT => by
    have hi := matchB_iff ps (namesL s)
    cases b with
    | true => exact hT.yes (hi.1 hb)
    | false => exact hT.no (fun hm => by rw [hi.2 hm] at hb; cases hb)
theorem skips_yes (S : Nat → Prop) (rb : Nat) (rs : List RuleN) (s : Txt) (w : World) (hS : ∀ k, S k → k < w.heap.size) (h : RulesAt S w rb rs) (hE : PEnv w) (hs : s.length ≤ 4194300) {b : Bool} (hb : skipsB rs s = b) :
    Calls Tryd.prog 16 #[.pointer (some ⟨rb, 0, none⟩), .string ⟨s.toArray⟩] w fun e w' => e = .returned (.bool b) ∧ Below w.heap.size w w' :=
  (skips_any S rb rs s w hS h hE hs).mono fun e w' hT => by
    have hi := skipsB_iff rs s
    cases b with
    | true => exact hT.yes (hi.1 hb)
    | false => exact hT.no (fun hm => by rw [hi.2 hm] at hb; cases hb)
set_option maxRecDepth 100000 in
set_option maxHeartbeats 4000000 in
theorem awake_any (w : World) (hE : PEnv w) : Calls Tryd.prog 9 #[] w fun e w' => e = .returned (.bool true) ∧ Below w.heap.size w w' := by
  have hp1 := parse_any aw1 w (by decide) hE
  rw [awP_ok] at hp1
  have HP1 := Lib.hid hp1
  have HE := Lib.hid hE
  clear hp1 hE
  go_enter Tryd.func9, Tryd.ntmps9
  go_wp2_with fail
  refine HP1.out.mono ?_
  rintro e w1 ⟨pb, rfl, hpt, hb1⟩
  have hp2 := parse_any aw2 w1 (by decide) (HE.out.on hb1)
  rw [awE] at hp2
  have HP2 := Lib.hid hp2
  have HPT := Lib.hid hpt
  have HB1 := Lib.hid hb1
  clear hp2 hpt hb1 HP1
  go_wp2_with fail
  refine HP2.out.mono ?_
  rintro e w2 ⟨rfl, hb2⟩
  have HB2 : Hid (Below w.heap.size w w2) := Lib.hid (HB1.out.trans (hb2.mono HB1.out.size))
  have HT2 := Lib.hid (HPT.out.kept (S' := fun k => k < w1.heap.size) (w' := w2) (fun k hk => ⟨hk.2, hb2.block k hk.2⟩))
  have hst := strs_of w2 [⟨#[42, 46, 111]⟩, ⟨#[33, 107, 101, 101, 112, 46, 111]⟩]
  have hb3 : Below w.heap.size w (w2.alloc (.cells ([(⟨#[42, 46, 111]⟩ : ByteArray), ⟨#[33, 107, 101, 101, 112, 46, 111]⟩].map Value.string).toArray 9)) := HB2.out.alloc HB2.out.size _
  have hnw := new_any _ _ aw3 (w2.alloc (.cells ([(⟨#[42, 46, 111]⟩ : ByteArray), ⟨#[33, 107, 101, 101, 112, 46, 111]⟩].map Value.string).toArray 9)) (fun k hk => by simp; exact hk.2) hst (by decide) (by decide) (HE.out.on hb3)
  rw [awR_ok] at hnw
  have HNW := Lib.hid hnw
  have HB3 := Lib.hid hb3
  have HSZ : Hid (w1.heap.size ≤ w2.heap.size) := Lib.hid hb2.size
  have HA2 : Hid (Below w2.heap.size w2 (w2.alloc (.cells ([(⟨#[42, 46, 111]⟩ : ByteArray), ⟨#[33, 107, 101, 101, 112, 46, 111]⟩].map Value.string).toArray 9))) := Lib.hid ((Below.refl _ _).alloc (Nat.le_refl _) _)
  clear hst hb3 hnw hb2 HP2
  go_wp2_with fail
  refine HNW.out.mono ?_
  rintro e w3 ⟨rb, rfl, hrt, hb3⟩
  have HB3' : Hid (Below w.heap.size w w3) := Lib.hid (HB3.out.trans (hb3.mono HB3.out.size))
  have HQ : Hid (Below w1.heap.size w2 w3) := Lib.hid ((HA2.out.trans (hb3.mono HA2.out.size)).mono HSZ.out)
  have HT3 := Lib.hid (HT2.out.kept (S' := fun k => k < w1.heap.size) (w' := w3) (fun k hk => ⟨hk, HQ.out.block k hk⟩))
  have HR3 := Lib.hid hrt
  have HS3 : Hid (w1.heap.size ≤ w3.heap.size) := Lib.hid (Nat.le_trans HSZ.out (by have := HA2.out.size; have := hb3.size; omega))
  have HM := Lib.hid (fun (W : World) (hb : Below w3.heap.size w3 W) (s : Txt) (b : Bool) (hs : s.length ≤ 4194300) (hm : matchB awP (namesL s) = b) => match_yes _ pb awP s W (fun k hk => Nat.lt_of_lt_of_le (Nat.lt_of_lt_of_le hk HS3.out) hb.size) (HT3.out.kept (S' := fun k => k < w1.heap.size) (w' := W) (fun k hk => ⟨hk, hb.block k (Nat.lt_of_lt_of_le hk HS3.out)⟩)) (HE.out.on (HB3'.out.trans (hb.mono HB3'.out.size))) hs hm)
  have HK := Lib.hid (fun (W : World) (hb : Below w3.heap.size w3 W) (s : Txt) (b : Bool) (hs : s.length ≤ 4194300) (hm : skipsB awR s = b) => skips_yes _ rb awR s W (fun k hk => Nat.lt_of_lt_of_le hk hb.size) (HR3.out.kept (S' := fun k => k < w3.heap.size) (w' := W) (fun k hk => ⟨hk.2, hb.block k hk.2⟩)) (HE.out.on (HB3'.out.trans (hb.mono HB3'.out.size))) hs hm)
  clear hrt hb3 HNW HT2 HPT HR3 HT3
  go_wp2_with fail
  refine (HM.out w3 (Below.refl _ _) [120, 47, 121, 47, 97, 98, 99, 46, 99] true (by decide) awM1).mono ?_
  rintro e w4 ⟨rfl, hb4⟩
  have HB4 := Lib.hid hb4
  clear hb4
  go_wp2_with fail
  refine (HM.out w4 HB4.out [97, 46, 104] true (by decide) awM2).mono ?_
  rintro e w5 ⟨rfl, hb5⟩
  have HB5 : Hid (Below w3.heap.size w3 w5) := Lib.hid (HB4.out.trans (hb5.mono HB4.out.size))
  clear hb5
  go_wp2_with fail
  refine (HM.out w5 HB5.out [97, 47, 98, 46, 99] false (by decide) awM3).mono ?_
  rintro e w6 ⟨rfl, hb6⟩
  have HB6 : Hid (Below w3.heap.size w3 w6) := Lib.hid (HB5.out.trans (hb6.mono HB5.out.size))
  clear hb6
  go_wp2_with fail
  refine (HK.out w6 HB6.out [97, 46, 111] true (by decide) awS1).mono ?_
  rintro e w7 ⟨rfl, hb7⟩
  have HB7 : Hid (Below w3.heap.size w3 w7) := Lib.hid (HB6.out.trans (hb7.mono HB6.out.size))
  clear hb7
  go_wp2_with fail
  refine (HK.out w7 HB7.out [107, 101, 101, 112, 46, 111] false (by decide) awS2).mono ?_
  rintro e w8 ⟨rfl, hb8⟩
  have HB8 : Hid (Below w3.heap.size w3 w8) := Lib.hid (HB7.out.trans (hb8.mono HB7.out.size))
  clear hb8
  go_wp2_with fail
  refine (HK.out w8 HB8.out [97, 46, 111, 47, 98] true (by decide) awS3).mono ?_
  rintro e w9 ⟨rfl, hb9⟩
  have HB9 : Hid (Below w3.heap.size w3 w9) := Lib.hid (HB8.out.trans (hb9.mono HB8.out.size))
  clear hb9
  go_wp2_with fail
  go_ret
  exact ⟨rfl, HB3'.out.trans (HB9.out.mono HB3'.out.size)⟩
end Go.Proofs.YthigepjddfdbmaaDoor
