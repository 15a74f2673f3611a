/- Rules: New. -/
import Derived.Test.YthigepjddfdbmaaDoorGlobL
namespace Go.Proofs.YthigepjddfdbmaaDoor
open Go.RowKit Go.Lib

/-- A rule: what it means, and whether it is let be. -/
structure RuleN where
  ps : List PieceN
  lets : Bool
def ruleRel (S : Nat → Prop) (w : World) (r : RuleN) (cs : List Value) : Prop := ∃ pb, cs = [.pointer (some ⟨pb, 0, none⟩), .bool r.lets] ∧ PatAt S w pb r.ps
theorem rule_keeps : Keeps ruleRel := by
  rintro S S' w w' r cs ⟨pb, h1, h2⟩ hk
  exact ⟨pb, h1, h2.kept hk⟩
abbrev RulesC := RowsC ruleRel 2
/-- Rules in memory. -/
def RulesAt (S : Nat → Prop) (w : World) (rb : Nat) (rs : List RuleN) : Prop := S rb ∧ (∃ v, w.cell? ⟨rb, 0, none⟩ = some v ∧ RulesC S w v rs) ∧ rs.length ≤ 4194304
theorem RulesAt.kept {S S' : Nat → Prop} {w w' : World} {rb : Nat} {rs : List RuleN} (h : RulesAt S w rb rs) (hk : ∀ k, S k → S' k ∧ w'.heap[k]? = w.heap[k]?) : RulesAt S' w' rb rs := by
  obtain ⟨h1, ⟨v, h2, h3⟩, h4⟩ := h
  exact ⟨(hk _ h1).1, ⟨v, (World.cell?_of_block (w := w) (hk _ h1).2).trans h2, h3.kept rule_keeps hk⟩, h4⟩
theorem RulesC.at {S : Nat → Prop} {w : World} {a : Option Addr} {c : Nat} {rs : List RuleN} (h : RulesC S w (.slice a rs.length c) rs) (hn : 0 < rs.length) :
    ∃ g o, a = some ⟨g, o, none⟩ ∧ S g ∧ rs.length ≤ c ∧ c ≤ 9223372036854775807 ∧ ∀ k, k < rs.length → ∃ pb, w.cell? ⟨g, o + k * 2, none⟩ = some (.pointer (some ⟨pb, 0, none⟩)) ∧ w.cell? ⟨g, o + k * 2 + 1, none⟩ = some (.bool (rs.getD k ⟨[], false⟩).lets) ∧ PatAt S w pb (rs.getD k ⟨[], false⟩).ps := by
  obtain ⟨g, o, h1, h2, h3, h4, h5⟩ := RowsC.at h hn
  refine ⟨g, o, h1, h2, h3, h4, fun k hk => ?_⟩
  have he : rs[k]? = some (rs.getD k ⟨[], false⟩) := by simp [List.getD, hk]
  obtain ⟨cs, _, ⟨pb, rfl, h7⟩, h8⟩ := h5 k _ he
  exact ⟨pb, h8 0 _ rfl, h8 1 _ rfl, h7⟩
/-- What the lines say. -/
def newGo : Nat → List Txt → Except (Int × Nat) (List RuleN)
  | _, [] => .ok []
  | i, t :: r => if t = [] ∨ t.getD 0 0 = 35 then newGo (i + 1) r else
    match parseN (if [33].isPrefixOf t = true then t.drop 1 else t) with
    | .error c => .error (c, i)
    | .ok ps => match newGo (i + 1) r with
      | .error e => .error e
      | .ok l => .ok (⟨ps, [33].isPrefixOf t⟩ :: l)
def joinX (l : List RuleN) (o : Except (Int × Nat) (List RuleN)) : Except (Int × Nat) (List RuleN) := match o with
  | .error e => .error e
  | .ok m => .ok (l ++ m)
theorem joinX_skip (l : List RuleN) (i : Nat) (t : Txt) (r : List Txt) (h : t = [] ∨ t.getD 0 0 = 35) : joinX l (newGo i (t :: r)) = joinX l (newGo (i + 1) r) := by
  rw [newGo, if_pos h]
theorem joinX_bad (l : List RuleN) (i : Nat) (t : Txt) (r : List Txt) (h : ¬ (t = [] ∨ t.getD 0 0 = 35)) (c : Int) (hp : parseN (if [33].isPrefixOf t = true then t.drop 1 else t) = .error c) : joinX l (newGo i (t :: r)) = .error (c, i) := by
  rw [newGo, if_neg h, hp]; rfl
theorem joinX_ok (l : List RuleN) (i : Nat) (t : Txt) (r : List Txt) (h : ¬ (t = [] ∨ t.getD 0 0 = 35)) (ps : List PieceN) (hp : parseN (if [33].isPrefixOf t = true then t.drop 1 else t) = .ok ps) : joinX l (newGo i (t :: r)) = joinX (l ++ [⟨ps, [33].isPrefixOf t⟩]) (newGo (i + 1) r) := by
  rw [newGo, if_neg h, hp]
  show joinX l (match newGo (i + 1) r with
    | .error e => .error e
    | .ok l => .ok (⟨ps, [33].isPrefixOf t⟩ :: l)) = _
  cases newGo (i + 1) r <;> simp [joinX]
theorem parse_err {s : Txt} {c : Int} (h : parseN s = .error c) : c = 2 ∨ c = 60 := by
  unfold parseN at h
  split at h
  · injection h with h; exact Or.inl h.symm
  · split at h
    · injection h with h; exact Or.inr h.symm
    · cases h
theorem Tryd.info62g : (Tryd.prog.info? 62).map (fun i => (i.zero, i.size, i.bytes)) = some (some (.agg #[.pointer none, .bool false]), 2, 16) := by kernel_rfl
theorem srcU_one (w : World) (pb : Nat) (b : Bool) : Src Tryd.prog 2 56 (.slice (some ⟨w.heap.size, 0, none⟩) 1 1) 1 [.pointer (some ⟨pb, 0, none⟩), .bool b] (w.alloc (.cells #[.pointer (some ⟨pb, 0, none⟩), .bool b] 62)) :=
  Src.ofSlice _ Tryd.underlying56 _ 1 1 _ rfl (fun j u hj => by
    have h0 := new_five w #[.pointer (some ⟨pb, 0, none⟩), .bool b] 62
    rw [add_pos, cell_of_row _ _ _ _ _ _ h0, Nat.zero_add]
    simpa using hj) (fun u hu => by
    simp at hu
    rcases hu with rfl | rfl <;> rfl)
def NewP (w : World) (res : Except (Int × Nat) (List RuleN)) (e : Ending) (w' : World) : Prop := match res with
  | .error p => e = .returned (.tuple #[.pointer none, .int .i64 p.1, .int .i64 (p.2 : Int)]) ∧ Below w.heap.size w w'
  | .ok rs => ∃ rb, e = .returned (.tuple #[.pointer (some ⟨rb, 0, none⟩), .int .i64 0, .int .i64 0]) ∧ RulesAt (fun k => w.heap.size ≤ k ∧ k < w'.heap.size) w' rb rs ∧ Below w.heap.size w w'
/-- Rules that are read so far: the row in its box. -/
structure NRow (w : World) (rb : Nat) (css : List (List Value)) (rs : List RuleN) (W : World) (o : Value) : Prop where
  c : W.cell? ⟨rb, 0, none⟩ = some o
  f : W.frozen? ⟨rb, 0, none⟩ = false
  r : OwnR ruleRel 62 2 (fun q => rb < q) W (rb + 1) o css rs
  b : Below w.heap.size w W
  lt : w.heap.size ≤ rb ∧ rb < W.heap.size
theorem NRow.on {w : World} {rb : Nat} {css : List (List Value)} {rs : List RuleN} {W W' : World} {o : Value} (h : NRow w rb css rs W o) (hb : Below W.heap.size W W') : NRow w rb css rs W' o :=
  ⟨(World.cell?_of_block (w := W) (a := ⟨rb, 0, none⟩) (hb.block rb h.lt.2)).trans h.c, (World.frozen?_of_block (w := W) (a := ⟨rb, 0, none⟩) (hb.block rb h.lt.2)).trans h.f, OwnR.on rule_keeps h.r (fun q hq _ => hb.block q hq) hb.size, h.b.trans (hb.mono h.b.size), h.lt.1, Nat.lt_of_lt_of_le h.lt.2 hb.size⟩
set_option maxRecDepth 100000 in
set_option maxHeartbeats 8000000 in
theorem new_any (S : Nat → Prop) (v : Value) (L : List Txt) (w : World) (hS : ∀ k, S k → k < w.heap.size) (hv : StrsC S w v L) (hL : L.length ≤ 4194304) (hT : ∀ x ∈ L, x.length ≤ 4194304) (hE : PEnv w) :
    Calls Tryd.prog 14 #[v] w (NewP w (newGo 0 L)) := by
  obtain ⟨i0, hi, hz0, hz1, hz2⟩ := info_parts Tryd.info62g
  obtain ⟨G, hG⟩ : ∃ G, newGo 0 L = G := ⟨_, rfl⟩
  have HG : Hid (joinX [] (newGo 0 (L.drop 0)) = G) := Lib.hid (by rw [List.drop_zero, hG]; cases G <;> rfl)
  rw [hG]
  obtain ⟨la, lc, rfl⟩ := hv.shape
  have HV := Lib.hid (fun (W : World) (hb : Below w.heap.size w W) => hv.kept (S' := S) (w' := W) (fun k hk => ⟨hk, hb.block k (hS k hk)⟩))
  have HT := Lib.hid hT
  have HE := Lib.hid hE
  have hk := new_five w #[.slice none 0 0] 58
  have HN0 : Hid (NRow w w.heap.size [] [] (w.alloc (.cells #[.slice none 0 0] 58)) (.slice none 0 0)) := Lib.hid ⟨cell0 hk, frozen_box hk 0, OwnR.nil _ _ _ _ _ _, (Below.refl _ w).alloc (Nat.le_refl _) _, Nat.le_refl _, by simp⟩
  clear hv hG hT hE hk hS
  go_enter Tryd.func14, Tryd.ntmps14
  go_wp2_with fail
  generalize w.alloc (.cells #[.slice none 0 0] 58) = w1 at *
  obtain ⟨rb, hrb⟩ : ∃ rb, w.heap.size = rb := ⟨_, rfl⟩
  have HRB := Lib.hid hrb
  have HN1 : Hid (NRow w rb [] [] w1 (.slice none 0 0)) := Lib.hid (by rw [← hrb]; exact HN0.out)
  rw [hrb]
  clear HN0 hrb
  go_loopw [16] (fun i wr => ∃ (k : Nat) (rs : List RuleN) (css : List (List Value)) (o : Value), k ≤ L.length ∧ i = .int .i64 k ∧ rs.length ≤ k ∧ Hid (joinX rs (newGo k (L.drop k)) = G) ∧ Hid (NRow w rb css rs wr o)) (fun i _ => L.length - (intOf i).toNat)
  case atStart => exact ⟨0, [], [], _, Nat.zero_le _, rfl, Nat.le_refl _, HG, HN1⟩
  case round =>
    obtain ⟨k, rs, css, o, hk, rfl, hpk, hE, hN⟩ := hrel
    by_cases hlt : k < L.length
    · obtain ⟨lb, rfl, _, hlc, hcell⟩ := (HV.out wr hN.out.b).at (by omega)
      have c1 := hcell k hlt
      have HD : Hid (L.drop k = L.getD k [] :: L.drop (k + 1)) := Lib.hid (by rw [List.drop_eq_getElem_cons hlt]; simp [List.getD, hlt])
      have htl : (L.getD k []).length ≤ 4194304 := HT.out _ (getD_in hlt)
      clear hcell
      generalize L.getD k [] = tt at *
      rw [HD.out] at hE
      by_cases h0 : tt = []
      · have HE2 : Hid (joinX rs (newGo (k + 1) (L.drop (k + 1))) = G) := Lib.hid (by rw [← hE.out]; exact (joinX_skip _ _ _ _ (Or.inl h0)).symm)
        subst h0
        go_wp2_with fail
        go_roundw
        case rel => exact ⟨k + 1, rs, css, o, by omega, by go_num, by omega, HE2, hN⟩
        case measure => simp [intOf]; omega
      have g0 : tt.isEmpty = false := by cases tt; exact absurd rfl h0; rfl
      have hI : ∀ W, (Instr.index 9 (.string ⟨tt.toArray⟩) (.int .i64 0)).run Tryd.prog W = .ok (.int .u8 ((tt.getD 0 0).toNat : Nat)) W := fun W => str_at W tt 0 (by cases tt; exact absurd rfl h0; simp)
      obtain ⟨ch, hch⟩ : ∃ ch, tt.getD 0 0 = ch := ⟨_, rfl⟩
      rw [hch] at hI
      by_cases h35 : ch = 35
      · have HE2 : Hid (joinX rs (newGo (k + 1) (L.drop (k + 1))) = G) := Lib.hid (by rw [← hE.out]; exact (joinX_skip _ _ _ _ (Or.inr (hch.trans h35))).symm)
        have g4 : ((ch.toNat : Int) == 35) = true := byte_t _ 35 (by omega) 35 rfl h35
        clear h0 h35 hch
        go_wp2_with fail
        go_roundw
        case rel => exact ⟨k + 1, rs, css, o, by omega, by go_num, by omega, HE2, hN⟩
        case measure => simp [intOf]; omega
      · have g4 : ((ch.toNat : Int) == 35) = false := byte_f _ 35 (by omega) 35 rfl h35
        have hno : ¬ (tt = [] ∨ tt.getD 0 0 = 35) := fun h => h.elim h0 (fun e => h35 (hch.symm.trans e))
        have HNO := Lib.hid hno
        have hc := Tryd.strings_CutPrefix ⟨tt.toArray⟩ ⟨#[33]⟩ wr
        rw [show (#[33] : Array UInt8) = ([33] : List UInt8).toArray from rfl, (pre_eq tt [33]).1, (pre_eq tt [33]).2] at hc
        obtain ⟨xx, hxx⟩ : ∃ x, (if [33].isPrefixOf tt = true then tt.drop 1 else tt) = x := ⟨_, rfl⟩
        have hxl : xx.length ≤ 4194304 := by
          rw [← hxx]
          split
          · rw [List.length_drop]; omega
          · exact htl
        have HP := Lib.hid (parse_any xx wr hxl (HE.out.on hN.out.b))
        have HJB := Lib.hid (fun c => joinX_bad rs k tt (L.drop (k + 1)) hno c)
        have HJO := Lib.hid (fun ps => joinX_ok rs k tt (L.drop (k + 1)) hno ps)
        simp only [List.length_cons, List.length_nil, Nat.zero_add] at hc
        rw [hxx] at hc HJB HJO
        have HPE := Lib.hid (fun c => @parse_err xx c)
        obtain ⟨lt, hlet⟩ : ∃ b, ([33] : List UInt8).isPrefixOf tt = b := ⟨_, rfl⟩
        rw [hlet] at hc HJO
        have HC := Lib.hid hc
        clear h0 h35 hno hc hch hxx hlet HNO
        go_wp2_with fail
        refine HC.out.mono ?_
        rintro e w4 ⟨rfl, hw4⟩
        rw [hw4]
        clear hw4
        go_wp2_with fail
        refine HP.out.mono ?_
        intro e w5 h5
        cases hpr : parseN xx with
        | error c =>
          rw [hpr] at h5
          obtain ⟨rfl, hb5⟩ := h5
          have HGE : Hid (G = .error (c, k)) := Lib.hid (by rw [← hE.out]; exact HJB.out c hpr)
          have hc0 : (c == 0) = false := by
            rcases HPE.out c hpr with h | h <;> subst h <;> rfl
          have HB5 : Hid (Below w.heap.size w w5) := Lib.hid (hN.out.b.trans (hb5.mono hN.out.b.size))
          clear hpr hb5 HP HC HJB HJO HPE
          go_wp2_with fail
          rw [HGE.out]
          exact bodyPost_ret (v := .tuple #[.pointer none, .int .i64 c, .int .i64 (k : Int)]) (by simp [results, Tryd.results14, go_sem]) rfl ⟨rfl, HB5.out⟩
        | ok ps =>
          rw [hpr] at h5
          obtain ⟨pb, rfl, hpa, hb5⟩ := h5
          have HE2 : Hid (joinX (rs ++ [⟨ps, lt⟩]) (newGo (k + 1) (L.drop (k + 1))) = G) := Lib.hid (by rw [← hE.out]; exact (HJO.out ps hpr).symm)
          have hN5 := hN.out.on hb5
          obtain ⟨oa, oc, rfl⟩ := ownR_shape hN5.r
          have c5 := hN5.c
          have f5 := hN5.f
          have hsz5 := hN5.lt
          have hb5s := hb5.size
          have hol : ∀ q, (Value.slice oa rs.length oc).ownBlock = some q → rb + 1 ≤ q ∧ q < wr.heap.size := fun q hq => World.ownsRow.lt hN.out.r.own q hq
          have HOL := Lib.hid hol
          have HN5 := Lib.hid hN5
          have HPA := Lib.hid hpa
          have HWR := Lib.hid hN.out.lt.2
          clear hpr hb5 HP HC HJB HJO HPE hpa hN hN5 hol
          go_wp2_with (at_builtin; refine wpList_own_src _ rfl _ _ 56 56 rfl (rb + 1) 62 i0 (.agg #[.pointer none, .bool false]) 2 16 Tryd.underlying56 hi hz0 hz1 hz2 rfl (by decide) _ _ _ rfl (World.ownsRow.alloc HN5.out.r.own _) _ 1 [.pointer (some ⟨pb, 0, none⟩), .bool lt] rfl (srcU_one _ _ _) (by unfold maxLen; omega) (by omega) (by simp; omega) ?_)
          intro v9 w9 hown9 hg9
          have hkb : w9.heap[rb]? = w5.heap[rb]? := (hg9.gb.block rb (by simp; omega) (fun e => by have := (World.ownsRow.lt HN5.out.r.own rb e.symm).1; omega)).trans (Below.heap_alloc _ _ _ (by omega))
          have o9 : OwnR ruleRel 62 2 (fun q => rb < q) w9 (rb + 1) v9 (css ++ [[.pointer (some ⟨pb, 0, none⟩), .bool lt]]) (rs ++ [⟨ps, lt⟩]) := OwnR.push rule_keeps HN5.out.r (fun q hq _ => Below.heap_alloc _ _ _ hq) (by simp) hg9 rfl (fun u hu => by simp at hu; rcases hu with rfl | rfl <;> rfl) hown9 ⟨pb, rfl, HPA.out.kept (fun q hq => ⟨⟨by have := HWR.out; omega, by simp; omega, fun e => by have := HOL.out q e; omega⟩, Below.heap_alloc _ _ _ hq.2⟩)⟩
          have b9 : Below w.heap.size w w9 := (HN5.out.b.alloc HN5.out.b.size _).grown hg9.gb (by simp; have := HN5.out.b.size; omega) (fun q hq => by have := (World.ownsRow.lt HN5.out.r.own q hq).1; omega)
          obtain ⟨a9, c9, rfl⟩ : ∃ a c, v9 = .slice a (rs.length + 1) c := by
            obtain ⟨a, c, h⟩ := ownR_shape o9
            exact ⟨a, c, by rw [h]; simp⟩
          have k1 := (World.cell?_of_block (w := w5) (a := ⟨rb, 0, none⟩) hkb).trans c5
          have k2 := (World.frozen?_of_block (w := w5) (a := ⟨rb, 0, none⟩) hkb).trans f5
          have s9 : rb < w9.heap.size := by have := hg9.gb.size; simp at this; omega
          have N9 : Hid (NRow w rb (css ++ [[.pointer (some ⟨pb, 0, none⟩), .bool lt]]) (rs ++ [⟨ps, lt⟩]) (w9.setCell ⟨rb, 0, none⟩ (.slice a9 (rs.length + 1) c9)) (.slice a9 (rs.length + 1) c9)) := Lib.hid
            ⟨World.cell?_setCell_same _ _ _ k1, by rw [World.frozen?_setCell]; exact k2, OwnR.on rule_keeps o9 (fun q _ hq => Below.heap_setCell _ _ _ _ (by show q ≠ rb; rcases hq with h | h <;> omega)) (by simp), b9.setCell hsz5.1 _, hsz5.1, by simpa using s9⟩
          clear hown9 hg9 hkb o9 b9 c5 f5
          go_wp2_with fail
          go_roundw
          case rel => exact ⟨k + 1, rs ++ [⟨ps, lt⟩], _, _, by omega, by go_num, by simp; omega, HE2, N9⟩
          case measure => simp [intOf]; omega
    · have HGE : Hid (G = .ok rs) := Lib.hid (by
        rw [← hE.out, List.drop_eq_nil_of_le (by omega)]
        simp [newGo, joinX])
      have hrbl := HRB.out
      have hrows : RulesC (fun q => w.heap.size ≤ q ∧ q < wr.heap.size) wr o rs := (OwnR.rows rule_keeps hN.out.r).kept rule_keeps (fun q hq => ⟨⟨by rcases hq.1 with h | h <;> omega, hq.2⟩, rfl⟩)
      have HFI : Hid (RulesAt (fun q => w.heap.size ≤ q ∧ q < wr.heap.size) wr rb rs) := Lib.hid ⟨⟨by omega, hN.out.lt.2⟩, ⟨o, hN.out.c, hrows⟩, by omega⟩
      clear hrows
      go_wp2_with fail
      rw [HGE.out]
      exact bodyPost_ret (v := .tuple #[.pointer (some ⟨rb, 0, none⟩), .int .i64 0, .int .i64 0]) (by simp [results, Tryd.results14, go_sem]) rfl ⟨rb, rfl, HFI.out, hN.out.b⟩
end Go.Proofs.YthigepjddfdbmaaDoor
