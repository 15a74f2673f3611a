/- How a pattern is read: mathematics; the reader's steps. -/
import Derived.Test.YthigepjddfdbmaaDoorGlobB
namespace Go.Proofs.YthigepjddfdbmaaDoor
open Go.RowKit Go.Lib

abbrev Txt := List UInt8
def nextN : Txt → Option (UInt8 × Txt)
  | [] => none
  | c :: r => some (c, r)
def memberN (t : Txt) : Option (UInt8 × Txt) := match t with
  | [] => none
  | c :: r => if c = 92 then nextN r else some (c, r)
def spanN (t : Txt) : Option ((Nat × Nat) × Txt) := match memberN t with
  | none => none
  | some (x, r) => if [45, 93].isPrefixOf r = true ∨ ([45] : Txt).isPrefixOf r = false then some ((x.toNat, x.toNat), r) else
    match memberN (r.drop 1) with
    | none => none
    | some (y, r2) => if y.toNat < x.toNat then none else some ((x.toNat, y.toNat), r2)
def setGo : Nat → S4 → Txt → Option (S4 × Txt)
  | 0, _, _ => none
  | n + 1, s, t => if ([93] : Txt).isPrefixOf t = true then some (s, t.drop 1) else match spanN t with
    | none => none
    | some ((x, y), r) => setGo n (addUp s x (y + 1 - x)) r
def setN (t : Txt) : Option (S4 × Txt) := match spanN (if ([33] : Txt).isPrefixOf t = true then t.drop 1 else t) with
  | none => none
  | some ((x, y), r) => match setGo (r.length + 1) (addUp noneS x (y + 1 - x)) r with
    | none => none
    | some (s, r2) => some (if ([33] : Txt).isPrefixOf t = true then othersS s else s, r2)
def signN (t : Txt) : Option (Option S4 × Txt) := match t with
  | [] => none
  | c :: r => if c = 42 then some (none, r) else if c = 63 then some (some (othersS noneS), r) else if c = 91 then
      (match setN r with
      | none => none
      | some (s, r2) => some (some s, r2))
    else if c = 92 then (match r with
      | [] => none
      | d :: r2 => some (some (addOne noneS d.toNat), r2))
    else some (some (addOne noneS c.toNat), r)
def signsGo : Nat → Txt → Option (List (Option S4))
  | _, [] => some []
  | 0, _ => none
  | n + 1, c :: t => match signN (c :: t) with
    | none => none
    | some (x, r) => (match signsGo n r with
      | none => none
      | some l => some (x :: l))
abbrev PieceN := Option (List (Option S4))
def pieceN (t : Txt) : Option PieceN := if t = [] then none else if t = [42, 42] then some none else match signsGo t.length t with
  | none => none
  | some l => some (some l)
def readN : List Txt → Option (List PieceN)
  | [] => some []
  | t :: r => match pieceN t, readN r with
    | some p, some l => some (p :: l)
    | _, _ => none
theorem member_len {t r : Txt} {c : UInt8} (h : memberN t = some (c, r)) : r.length < t.length := by
  unfold memberN at h
  split at h
  · cases h
  · split at h
    · unfold nextN at h
      split at h
      · cases h
      · injection h with h; injection h with _ h; subst h; simp; omega
    · injection h with h; injection h with _ h; subst h; simp
theorem span_len {t r : Txt} {x y : Nat} (h : spanN t = some ((x, y), r)) : r.length < t.length ∧ x ≤ y ∧ y < 256 := by
  unfold spanN at h
  split at h
  · cases h
  · rename_i c r1 hm
    have h1 := member_len hm
    have hc := c.toNat_lt
    split at h
    · injection h with h; injection h with h0 h; injection h0 with h2 h3; subst h h2 h3
      exact ⟨h1, Nat.le_refl _, hc⟩
    · split at h
      · cases h
      · rename_i d r2 hm2
        have h2 := member_len hm2
        have hd := d.toNat_lt
        split at h
        · cases h
        · injection h with h; injection h with h0 h; injection h0 with h3 h4; subst h h3 h4
          rw [List.length_drop] at h2
          exact ⟨by omega, by omega, hd⟩
theorem setGo_len : ∀ (n : Nat) (s s2 : S4) (t r : Txt), setGo n s t = some (s2, r) → r.length < t.length
  | 0, _, _, _, _, h => by cases h
  | n + 1, s, s2, t, r, h => by
    unfold setGo at h
    split at h
    · rename_i hp
      injection h with h; injection h with _ h; subst h
      cases t with
      | nil => cases hp
      | cons a t => simp
    · split at h
      · cases h
      · rename_i x y r1 hs
        have h1 := (span_len hs).1
        have h2 := setGo_len n _ _ _ _ h
        omega
/-- With more to go by it is the same. -/
theorem setGo_more : ∀ (n m : Nat) (s : S4) (t : Txt), t.length < n → t.length < m → setGo n s t = setGo m s t
  | 0, _, _, _, h, _ => by omega
  | _, 0, _, _, _, h => by omega
  | n + 1, m + 1, s, t, h1, h2 => by
    unfold setGo
    split
    · rfl
    · split
      · rfl
      · rename_i x y r hs
        have := (span_len hs).1
        exact setGo_more n m _ _ (by omega) (by omega)
theorem set_len {t r : Txt} {s : S4} (h : setN t = some (s, r)) : r.length < t.length := by
  unfold setN at h
  split at h
  · cases h
  · rename_i x y r1 hs
    have h1 := (span_len hs).1
    split at h
    · cases h
    · rename_i s1 r2 hg
      have h2 := setGo_len _ _ _ _ _ hg
      injection h with h; injection h with _ h; subst h
      split at h1
      · rw [List.length_drop] at h1; omega
      · omega
theorem sign_len {t r : Txt} {x : Option S4} (h : signN t = some (x, r)) : r.length < t.length := by
  unfold signN at h
  split at h
  · cases h
  · rename_i c t
    split at h
    · injection h with h; injection h with _ h; subst h; simp
    · split at h
      · injection h with h; injection h with _ h; subst h; simp
      · split at h
        · split at h
          · cases h
          · rename_i s r2 hs
            have := set_len hs
            injection h with h; injection h with _ h; subst h; simp; omega
        · split at h
          · split at h
            · cases h
            · injection h with h; injection h with _ h; subst h; simp; omega
          · injection h with h; injection h with _ h; subst h; simp
theorem signsGo_more : ∀ (n m : Nat) (t : Txt), t.length ≤ n → t.length ≤ m → signsGo n t = signsGo m t
  | n, m, [], _, _ => by cases n <;> cases m <;> rfl
  | 0, _, c :: t, h, _ => by simp at h
  | _, 0, c :: t, _, h => by simp at h
  | n + 1, m + 1, c :: t, h1, h2 => by
    unfold signsGo
    split
    · rfl
    · rename_i x r hs
      have := sign_len hs
      simp only [List.length_cons] at this h1 h2
      rw [signsGo_more n m r (by omega) (by omega)]
/-- A reader in memory: what is left to read. -/
structure RdAt (w : World) (rb : Nat) (t : Txt) : Prop where
  c : w.cell? ⟨rb, 0, none⟩ = some (.string ⟨t.toArray⟩)
  f : w.frozen? ⟨rb, 0, none⟩ = false
  lt : rb < w.heap.size
theorem gb_trans {a b c : World} {row : Option Nat} (h : a.grownBy b row) (k : b.grownBy c row) : a.grownBy c row :=
  ⟨k.os.trans h.os, k.tape.trans h.tape, k.output.trans h.output, Nat.le_trans h.size k.size, fun i hi hne => (k.block i (Nat.lt_of_lt_of_le hi h.size) hne).trans (h.block i hi hne)⟩
theorem gb_below {a w : World} (h : Below a.heap.size a w) (row : Option Nat) : a.grownBy w row := ⟨h.os, h.tape, h.output, h.size, fun i hi _ => h.block i hi⟩
theorem gb_set (w : World) (b o : Nat) (v : Value) : w.grownBy (w.setCell ⟨b, o, none⟩ v) (some b) := ⟨rfl, rfl, rfl, by simp [World.setCell], fun i _ hne => Below.heap_setCell _ _ _ _ (fun e => hne (by rw [e]))⟩
theorem gb_bel {B : Nat} {a b c : World} {row : Nat} (h : Below B a b) (hm : B ≤ row) (hB : B ≤ b.heap.size) (k : b.grownBy c (some row)) : Below B a c :=
  ⟨k.os.trans h.os, k.tape.trans h.tape, k.output.trans h.output, Nat.le_trans h.size k.size, fun i hi => (k.block i (Nat.lt_of_lt_of_le hi hB) (fun e => by injection e with e; omega)).trans (h.block i hi)⟩
theorem RdAt.set {w : World} {rb : Nat} {t : Txt} (h : RdAt w rb t) (r : Txt) : RdAt (w.setCell ⟨rb, 0, none⟩ (.string ⟨r.toArray⟩)) rb r :=
  ⟨World.cell?_setCell_same _ _ _ h.c, by rw [World.frozen?_setCell]; exact h.f, by simpa using h.lt⟩
theorem RdAt.below {w w' : World} {rb : Nat} {t : Txt} (h : RdAt w rb t) (hb : Below w.heap.size w w') : RdAt w' rb t :=
  ⟨(World.cell?_of_block (w := w) (hb.block rb h.lt)).trans h.c, (World.frozen?_of_block (w := w) (hb.block rb h.lt)).trans h.f, Nat.lt_of_lt_of_le h.lt hb.size⟩
/-- It gives up: the text is no pattern. -/
def NoPat (rb : Nat) (w : World) (e : Ending) (w' : World) : Prop := e = .panicked [{ v := .iface 24 (.int .i64 60), recovered := false }] ∧ w.grownBy w' (some rb)
/-- It yields something and has read on, or gives up. -/
def Gives {α : Type} (V : α → Value) (rb : Nat) (w : World) (res : Option (α × Txt)) (e : Ending) (w' : World) : Prop := match res with
  | none => NoPat rb w e w'
  | some (x, r) => e = .returned (V x) ∧ RdAt w' rb r ∧ w.grownBy w' (some rb)
theorem ext_one (c : UInt8) (r : Txt) : (⟨(c :: r).toArray⟩ : ByteArray).extract 1 (r.length + 1) = ⟨r.toArray⟩ := by rw [extract_list]; simp
def byteV (c : UInt8) : Value := .int .u8 (c.toNat : Int)
set_option maxRecDepth 100000 in
set_option maxHeartbeats 1000000 in
theorem next_any (rb : Nat) (t : Txt) (w : World) (h : RdAt w rb t) (hl : t.length ≤ 4194304) :
    Calls Tryd.prog 66 #[.pointer (some ⟨rb, 0, none⟩)] w (Gives byteV rb w (nextN t)) := by
  have H := Lib.hid h
  have c0 := h.c
  have f0 := h.f
  clear h
  cases t with
  | nil =>
    go_enter Tryd.func66, Tryd.ntmps66
    go_wp2_with fail
    exact ⟨rfl, rfl, World.grownBy.refl _ _⟩
  | cons c r =>
    go_enter Tryd.func66, Tryd.ntmps66
    go_wp2_with fail
    go_ret
    rw [ext_one]
    exact ⟨rfl, H.out.set r, gb_set _ _ _ _⟩
theorem byte_eq (c : UInt8) (n : Nat) (hn : n < 256) : ((c.toNat : Int) == (n : Int)) = decide (c = UInt8.ofNat n) := by
  rw [Bool.eq_iff_iff, beq_iff_eq, decide_eq_true_eq]
  constructor
  · intro h
    apply UInt8.toNat.inj
    rw [UInt8.toNat_ofNat']
    omega
  · intro h
    subst h
    rw [UInt8.toNat_ofNat']
    omega
theorem byte_f (c : UInt8) (n : Nat) (hn : n < 256) (k : Int) (hk : k = (n : Int)) (h : c ≠ UInt8.ofNat n) : ((c.toNat : Int) == k) = false := by
  rw [hk, byte_eq c n hn]; exact decide_eq_false h
theorem byte_t (c : UInt8) (n : Nat) (hn : n < 256) (k : Int) (hk : k = (n : Int)) (h : c = UInt8.ofNat n) : ((c.toNat : Int) == k) = true := by
  rw [hk, byte_eq c n hn]; exact decide_eq_true h
theorem pre_eq (t p : Txt) : Lib.hasPrefix t p = p.isPrefixOf t ∧ Lib.trimPrefix t p = if p.isPrefixOf t = true then t.drop p.length else t := ⟨rfl, rfl⟩
set_option maxRecDepth 100000 in
set_option maxHeartbeats 1000000 in
theorem member_any (rb : Nat) (t : Txt) (w : World) (h : RdAt w rb t) (hl : t.length ≤ 4194304) :
    Calls Tryd.prog 82 #[.pointer (some ⟨rb, 0, none⟩)] w (Gives byteV rb w (memberN t)) := by
  have HN := Lib.hid (next_any rb t w h hl)
  cases t with
  | nil =>
    go_enter Tryd.func82, Tryd.ntmps82
    go_wp2_with fail
    refine HN.out.mono ?_
    rintro e w1 ⟨rfl, hg⟩
    go_wp2_with fail
    exact ⟨rfl, rfl, hg⟩
  | cons c r =>
    have hm : memberN (c :: r) = if c = 92 then nextN r else some (c, r) := rfl
    generalize memberN (c :: r) = R at *
    have HM := Lib.hid hm
    clear hm
    go_enter Tryd.func82, Tryd.ntmps82
    go_wp2_with fail
    refine HN.out.mono ?_
    rintro e w1 ⟨he, hr, hg⟩
    unfold byteV at he
    subst he
    have HR := Lib.hid hr
    have HG := Lib.hid hg
    have hn2 := next_any rb r w1 hr (by simp at hl; omega)
    clear hr hg
    by_cases hc : c = 92
    · have gx : ((c.toNat : Int) == 92) = true := byte_t c 92 (by omega) 92 rfl hc
      have hE : R = nextN r := by rw [HM.out, if_pos hc]
      rw [← hE] at hn2
      have HN2 := Lib.hid hn2
      clear hc hE hn2 HM
      go_wp2_with fail
      refine HN2.out.mono ?_
      intro e w2 h2
      cases R with
      | none =>
        obtain ⟨rfl, h3⟩ := h2
        go_wp2_with fail
        exact ⟨rfl, rfl, gb_trans HG.out h3⟩
      | some p =>
        obtain ⟨d, r2⟩ := p
        obtain ⟨he, h3, h4⟩ := h2
        unfold byteV at he
        subst he
        go_wp2_with fail
        go_ret
        exact ⟨rfl, h3, gb_trans HG.out h4⟩
    · have gx : ((c.toNat : Int) == 92) = false := byte_f c 92 (by omega) 92 rfl hc
      have HE : Hid (R = some (c, r)) := Lib.hid (by rw [HM.out, if_neg hc])
      clear hc hn2 HM
      go_wp2_with fail
      go_ret
      rw [HE.out]
      exact ⟨rfl, HR.out, HG.out⟩
set_option maxRecDepth 100000 in
set_option maxHeartbeats 1000000 in
theorem take_any (rb : Nat) (t p : Txt) (w : World) (h : RdAt w rb t) {r : Bool} (hr : p.isPrefixOf t = r) :
    Calls Tryd.prog 74 #[.pointer (some ⟨rb, 0, none⟩), .string ⟨p.toArray⟩] w fun e w' => e = .returned (.bool r) ∧ RdAt w' rb (if r = true then t.drop p.length else t) ∧ w.grownBy w' (some rb) := by
  have H := Lib.hid h
  have c0 := h.c
  have f0 := h.f
  have hc := Tryd.strings_CutPrefix ⟨t.toArray⟩ ⟨p.toArray⟩ w
  rw [(pre_eq t p).1, (pre_eq t p).2, hr] at hc
  obtain ⟨q, hq⟩ : ∃ q, (if r = true then t.drop p.length else t) = q := ⟨_, rfl⟩
  rw [hq] at hc ⊢
  have HC := Lib.hid hc
  clear h hc hr hq
  go_enter Tryd.func74, Tryd.ntmps74
  go_wp2_with fail
  refine HC.out.mono ?_
  rintro e w1 ⟨rfl, rfl⟩
  go_wp2_with fail
  go_ret
  exact ⟨rfl, H.out.set q, gb_set _ _ _ _⟩
theorem take_yes (rb : Nat) (t p : Txt) (w : World) (h : RdAt w rb t) (hr : p.isPrefixOf t = true) :
    Calls Tryd.prog 74 #[.pointer (some ⟨rb, 0, none⟩), .string ⟨p.toArray⟩] w fun e w' => e = .returned (.bool true) ∧ RdAt w' rb (t.drop p.length) ∧ w.grownBy w' (some rb) :=
  (take_any rb t p w h hr).mono fun _ _ ⟨h1, h2, h3⟩ => ⟨h1, by rwa [if_pos rfl] at h2, h3⟩
theorem take_no (rb : Nat) (t p : Txt) (w : World) (h : RdAt w rb t) (hr : p.isPrefixOf t = false) :
    Calls Tryd.prog 74 #[.pointer (some ⟨rb, 0, none⟩), .string ⟨p.toArray⟩] w fun e w' => e = .returned (.bool false) ∧ RdAt w' rb t ∧ w.grownBy w' (some rb) :=
  (take_any rb t p w h hr).mono fun _ _ ⟨h1, h2, h3⟩ => ⟨h1, by rwa [if_neg (by simp)] at h2, h3⟩
def spanV (p : Nat × Nat) : Value := .tuple #[.int .u8 (p.1 : Int), .int .u8 (p.2 : Int)]
set_option maxRecDepth 100000 in
set_option maxHeartbeats 2000000 in
theorem span_any (rb : Nat) (t : Txt) (w : World) (h : RdAt w rb t) (hl : t.length ≤ 4194304) :
    Calls Tryd.prog 76 #[.pointer (some ⟨rb, 0, none⟩)] w (Gives spanV rb w (spanN t)) := by
  have HM := Lib.hid (member_any rb t w h hl)
  have hsp : spanN t = match memberN t with
    | none => none
    | some (x, r) => if [45, 93].isPrefixOf r = true ∨ ([45] : Txt).isPrefixOf r = false then some ((x.toNat, x.toNat), r) else
      match memberN (r.drop 1) with
      | none => none
      | some (y, r2) => if y.toNat < x.toNat then none else some ((x.toNat, y.toNat), r2) := rfl
  generalize spanN t = R at *
  have HSP := Lib.hid hsp
  clear hsp
  have HL := Lib.hid (fun c r => member_len (t := t) (c := c) (r := r))
  generalize memberN t = res at *
  clear h
  go_enter Tryd.func76, Tryd.ntmps76
  go_wp2_with fail
  refine HM.out.mono ?_
  intro e w1 h1
  cases res with
  | none =>
    obtain ⟨rfl, hg⟩ := h1
    have HE : Hid (R = none) := HSP
    go_wp2_with fail
    rw [HE.out]
    exact ⟨rfl, rfl, hg⟩
  | some p =>
    obtain ⟨c, r⟩ := p
    have HSP1 : Hid (R = if [45, 93].isPrefixOf r = true ∨ ([45] : Txt).isPrefixOf r = false then some ((c.toNat, c.toNat), r) else
      match memberN (r.drop 1) with
      | none => none
      | some (y, r2) => if y.toNat < c.toNat then none else some ((c.toNat, y.toNat), r2)) := HSP
    clear HSP
    obtain ⟨he, hr, hg⟩ := h1
    unfold byteV at he
    subst he
    have hrl : r.length ≤ 4194304 := by have := HL.out c r rfl; omega
    have HR := Lib.hid hr
    have HG := Lib.hid hg
    have c0 := hr.c
    have hp := Tryd.strings_HasPrefix ⟨r.toArray⟩ ⟨#[45, 93]⟩ w1
    rw [(pre_eq r [45, 93]).1] at hp
    have hc256 := c.toNat_lt
    have HC256 := Lib.hid hc256
    have HTY := Lib.hid (fun hb => take_yes rb r [45] w1 hr hb)
    have HTN := Lib.hid (fun hb => take_no rb r [45] w1 hr hb)
    clear hr hg HM HL hc256
    by_cases hx : ([45, 93] : Txt).isPrefixOf r = true
    · rw [hx] at hp
      have HP := Lib.hid hp
      have HS : Hid ([45, 93].isPrefixOf r = true ∨ ([45] : Txt).isPrefixOf r = false) := Lib.hid (Or.inl hx)
      have HE : Hid (R = some ((c.toNat, c.toNat), r)) := Lib.hid (by rw [HSP1.out, if_pos HS.out])
      clear HS
      clear hp hx
      go_wp2_with fail
      refine HP.out.mono ?_
      rintro e w2 ⟨rfl, rfl⟩
      go_wp2_with fail
      go_ret2
      rw [HE.out]
      exact ⟨rfl, HR.out, HG.out⟩
    · have hx' : ([45, 93] : Txt).isPrefixOf r = false := by rw [← Bool.not_eq_true]; exact hx
      rw [hx'] at hp
      have HP := Lib.hid hp
      clear hp
      by_cases hy : ([45] : Txt).isPrefixOf r = true
      · have HS : Hid (¬ ([45, 93].isPrefixOf r = true ∨ ([45] : Txt).isPrefixOf r = false)) := Lib.hid (by rw [hx', hy]; simp)
        have HT2 := Lib.hid (HTY.out hy)
        clear hx hx' hy HTY HTN
        go_wp2_with fail
        refine HP.out.mono ?_
        rintro e w2 ⟨rfl, rfl⟩
        clear c0
        go_wp2_with fail
        refine HT2.out.mono ?_
        rintro e w2 ⟨rfl, hr2, hg2⟩
        have HG2 := Lib.hid (gb_trans HG.out hg2)
        have HM2 := Lib.hid (member_any rb (r.drop 1) w2 hr2 (by rw [List.length_drop]; omega))
        clear hr2 hg2
        have HE : Hid (R = match memberN (r.drop 1) with
          | none => none
          | some (y, r2) => if y.toNat < c.toNat then none else some ((c.toNat, y.toNat), r2)) := Lib.hid (by rw [HSP1.out, if_neg HS.out])
        generalize memberN (r.drop 1) = res2 at *
        clear HSP1
        go_wp2_with fail
        refine HM2.out.mono ?_
        intro e w3 h3
        cases res2 with
        | none =>
          obtain ⟨rfl, hg⟩ := h3
          have HE2 : Hid (R = none) := HE
          go_wp2_with fail
          rw [HE2.out]
          exact ⟨rfl, rfl, gb_trans HG2.out hg⟩
        | some p =>
          obtain ⟨d, r2⟩ := p
          obtain ⟨he, hr3, hg3⟩ := h3
          unfold byteV at he
          subst he
          have HE2 : Hid (R = if d.toNat < c.toNat then none else some ((c.toNat, d.toNat), r2)) := HE
          clear HE
          have HR3 := Lib.hid hr3
          have HG3 := Lib.hid (gb_trans HG2.out hg3)
          clear hr3 hg3
          by_cases hlt : d.toNat < c.toNat
          · have gx : decide (d.toNat < c.toNat) = true := decide_eq_true hlt
            have HLT := Lib.hid hlt
            clear hlt
            have HE3 : Hid (R = none) := Lib.hid (by rw [HE2.out, if_pos HLT.out])
            clear HE2 HLT
            generalize d.toNat = dn at *
            generalize c.toNat = cn at *
            go_wp2_with fail
            rw [HE3.out]
            exact ⟨rfl, rfl, HG3.out⟩
          · have gx : decide (d.toNat < c.toNat) = false := decide_eq_false hlt
            have HLT := Lib.hid hlt
            clear hlt
            have HE3 : Hid (R = some ((c.toNat, d.toNat), r2)) := Lib.hid (by rw [HE2.out, if_neg HLT.out])
            clear HE2 HLT
            generalize d.toNat = dn at *
            generalize c.toNat = cn at *
            go_wp2_with fail
            go_ret2
            rw [HE3.out]
            exact ⟨rfl, HR3.out, HG3.out⟩
      · have hy' : ([45] : Txt).isPrefixOf r = false := by rw [← Bool.not_eq_true]; exact hy
        have HS : Hid ([45, 93].isPrefixOf r = true ∨ ([45] : Txt).isPrefixOf r = false) := Lib.hid (Or.inr hy')
        have HE : Hid (R = some ((c.toNat, c.toNat), r)) := Lib.hid (by rw [HSP1.out, if_pos HS.out])
        clear HS
        have HT2 := Lib.hid (HTN.out hy')
        clear hx hx' hy hy' HTY HTN
        go_wp2_with fail
        refine HP.out.mono ?_
        rintro e w2 ⟨rfl, rfl⟩
        clear c0
        go_wp2_with fail
        refine HT2.out.mono ?_
        rintro e w2 ⟨rfl, hr2, hg2⟩
        have HR2 := Lib.hid hr2
        have HG2 := Lib.hid (gb_trans HG.out hg2)
        clear hr2 hg2
        go_wp2_with fail
        go_ret2
        rw [HE.out]
        exact ⟨rfl, HR2.out, HG2.out⟩
end Go.Proofs.YthigepjddfdbmaaDoor
