/- The reader's signs; read. -/
import Derived.Test.YthigepjddfdbmaaDoorGlobD
import Derived.Test.YthigepjddfdbmaaDoorRecs
namespace Go.Proofs.YthigepjddfdbmaaDoor
open Go.RowKit Go.Lib

theorem OwnR.on {E : Type} {rel : (Nat → Prop) → World → E → List Value → Prop} (hr : Keeps rel) {t : TypeId} {sz B : Nat} {S : Nat → Prop} {w w' : World} {v : Value} {css : List (List Value)} {es : List E} (h : OwnR rel t sz S w B v css es) (hk : ∀ q, q < w.heap.size → B ≤ q ∨ S q → w'.heap[q]? = w.heap[q]?) (hs : w.heap.size ≤ w'.heap.size) : OwnR rel t sz S w' B v css es := by
  refine ⟨⟨h.own.1, ?_⟩, h.len, h.each, h.one, fun j e cs he hc => hr _ _ _ _ _ _ (h.reads j e cs he hc) (fun k hk2 => ⟨⟨hk2.1, Nat.lt_of_lt_of_le hk2.2.1 hs, hk2.2.2⟩, hk k hk2.2.1 (Or.inr hk2.1)⟩)⟩
  rcases h.own.2 with h2 | ⟨g, cap, cur, h1, h2, h3, h4⟩
  · exact Or.inl h2
  · exact Or.inr ⟨g, cap, cur, h1, h2, (hk g (Array.getElem?_eq_some_iff.1 h3).1 (Or.inl h2)).trans h3, h4⟩
theorem ownR_shape {E : Type} {rel : (Nat → Prop) → World → E → List Value → Prop} {t : TypeId} {sz B : Nat} {S : Nat → Prop} {w : World} {v : Value} {css : List (List Value)} {es : List E} (h : OwnR rel t sz S w B v css es) : ∃ a c, v = .slice a es.length c := (own_cells h.own h.one).shape
def signRel (_ : Nat → Prop) (_ : World) (x : Option S4) (cs : List Value) : Prop := cs = signCells x ∧ ∀ s, x = some s → s.Ok
theorem sign_keeps : Keeps signRel := fun _ _ _ _ _ _ h _ => h
abbrev SignsC := RowsC signRel 5
theorem signV_shape (x : Option S4) : ∃ (b : Bool) (p q r s : Nat), signV x = .agg #[.bool b, .int .u64 p, .int .u64 q, .int .u64 r, .int .u64 s] ∧ signCells x = [.bool b, .int .u64 p, .int .u64 q, .int .u64 r, .int .u64 s] := by
  cases x with
  | none => exact ⟨true, 0, 0, 0, 0, rfl, rfl⟩
  | some s => exact ⟨false, s.a, s.b, s.c, s.d, rfl, rfl⟩
theorem srcG_one (w : World) (b : Bool) (p q r s : Nat) : Src Tryd.prog 5 72 (.slice (some ⟨w.heap.size, 0, none⟩) 1 1) 1 [.bool b, .int .u64 p, .int .u64 q, .int .u64 r, .int .u64 s] (w.alloc (.cells #[.bool b, .int .u64 p, .int .u64 q, .int .u64 r, .int .u64 s] 100)) :=
  Src.ofSlice _ Tryd.underlying72 _ 1 1 _ rfl (fun j u hj => by
    have h0 := new_five w #[.bool b, .int .u64 p, .int .u64 q, .int .u64 r, .int .u64 s] 100
    rw [add_pos, cell_of_row _ _ _ _ _ _ h0, Nat.zero_add]
    simpa using hj) (fun u hu => by
    simp at hu
    rcases hu with rfl | rfl | rfl | rfl | rfl <;> rfl)
theorem Tryd.info100g : (Tryd.prog.info? 100).map (fun i => (i.zero, i.size, i.bytes)) = some (some (.agg #[.bool false, .int .u64 0, .int .u64 0, .int .u64 0, .int .u64 0]), 5, 40) := by kernel_rfl
/-- A list of signs, or it gives up. -/
def SignsP (rb : Nat) (w : World) (res : Option (List (Option S4))) (e : Ending) (w' : World) : Prop := match res with
  | none => NoPat rb w e w'
  | some l => ∃ v, e = .returned v ∧ SignsC (fun k => w.heap.size ≤ k ∧ k < w'.heap.size) w' v l ∧ l.length ≤ 4194304 ∧ w.grownBy w' (some rb)
/-- What is read, and what comes behind it. -/
def joinO (l : List (Option S4)) (o : Option (List (Option S4))) : Option (List (Option S4)) := match o with
  | none => none
  | some m => some (l ++ m)
set_option maxRecDepth 100000 in
set_option maxHeartbeats 4000000 in
theorem signs_any (rb : Nat) (t : Txt) (w : World) (h : RdAt w rb t) (hl : t.length ≤ 4194304) :
    Calls Tryd.prog 45 #[.pointer (some ⟨rb, 0, none⟩)] w (SignsP rb w (signsGo t.length t)) := by
  obtain ⟨i0, hi, hz0, hz1, hz2⟩ := info_parts Tryd.info100g
  obtain ⟨G, hG⟩ : ∃ G, signsGo t.length t = G := ⟨_, rfl⟩
  have HG : Hid (joinO [] (signsGo t.length t) = G) := Lib.hid (by rw [hG]; cases G <;> rfl)
  rw [hG]
  have H := Lib.hid h
  have HLT : Hid (rb < w.heap.size) := Lib.hid h.lt
  clear hG h
  go_enter Tryd.func45, Tryd.ntmps45
  go_wp2_with fail
  go_loopw [3] (fun o wr => ∃ (l : List (Option S4)) (u : Txt) (css : List (List Value)) (n : Nat), Hid (joinO l (signsGo n u) = G) ∧ Hid (u.length ≤ n) ∧ l.length + u.length ≤ 4194304 ∧ Hid (OwnR signRel 100 5 (fun q => w.heap.size ≤ q) wr w.heap.size o css l) ∧ Hid (RdAt wr rb u) ∧ Hid (w.grownBy wr (some rb))) (fun _ wr => textLen rb wr)
  case atStart => exact ⟨[], t, [], t.length, HG, Lib.hid (Nat.le_refl _), by simpa using hl, Lib.hid (OwnR.nil _ _ _ _ _ _), H, Lib.hid (World.grownBy.refl _ _)⟩
  case round =>
    obtain ⟨l, u, css, n, hE, hN, hlu, hO, hR, hGr⟩ := hrel
    obtain ⟨oa, oc, rfl⟩ := ownR_shape hO.out
    have HLR := Lib.hid hR.out.len
    have c0 := hR.out.c
    have hsz := hGr.out.size
    cases u with
    | nil =>
      have HGE : Hid (G = some l) := Lib.hid (by
        rw [← hE.out]
        have : signsGo n [] = some [] := by cases n <;> rfl
        rw [this]; simp [joinO])
      go_wp2_with fail
      go_ret
      rw [HGE.out]
      exact ⟨_, rfl, (hO.out.rows sign_keeps).kept sign_keeps (fun k hk => ⟨⟨by rcases hk.1 with h | h <;> exact h, hk.2⟩, rfl⟩), by omega, hGr.out⟩
    | cons c u =>
      obtain ⟨m, hm⟩ : ∃ m, n = m + 1 := ⟨n - 1, by have := hN.out; simp at this; omega⟩
      subst hm
      have hge : G = joinO l (match signN (c :: u) with
        | none => none
        | some (x, r) => (match signsGo m r with
          | none => none
          | some l => some (x :: l))) := hE.out.symm
      have hsg := rsign_any rb (c :: u) wr hR.out (by omega)
      have HSL := Lib.hid (fun x r => sign_len (t := c :: u) (x := x) (r := r))
      have HSK := Lib.hid (fun s r => sign_ok (t := c :: u) (s := s) (r := r))
      generalize signN (c :: u) = res at *
      have HGE := Lib.hid hge
      have HSG := Lib.hid hsg
      clear hge hsg hE
      go_wp2_with fail
      refine HSG.out.mono ?_
      intro e w5 h5
      cases res with
      | none =>
        obtain ⟨rfl, hg⟩ := h5
        have HE2 : Hid (G = none) := HGE
        go_wp2_with fail
        rw [HE2.out]
        exact ⟨rfl, rfl, gb_trans hGr.out hg⟩
      | some p =>
        obtain ⟨x, r⟩ := p
        obtain ⟨he, hr5, hg5⟩ := h5
        obtain ⟨b0, p0, q0, r0, s0, e1, e2⟩ := signV_shape x
        rw [e1] at he
        subst he
        have hlen := HSL.out x r rfl
        have HLEN := Lib.hid hlen
        have hlr : l.length + 1 + r.length ≤ 4194304 := by simp at hlen hlu; omega
        have HGE2 : Hid (joinO (l ++ [x]) (signsGo m r) = G) := Lib.hid (by
          have e3 : G = joinO l (match signsGo m r with
            | none => none
            | some l => some (x :: l)) := HGE.out
          rw [e3]
          cases signsGo m r <;> simp [joinO])
        have HN5 : Hid (r.length ≤ m) := Lib.hid (by have := hN.out; simp at this hlen; omega)
        have HR5 := Lib.hid hr5
        have HG5 := Lib.hid (gb_trans hGr.out hg5)
        have HO5 := Lib.hid (hO.out.on sign_keeps (fun q hq hB => hg5.block q hq (fun e => by injection e with e; have := HLT.out; rcases hB with h | h <;> omega)) hg5.size)
        have hs5 := HG5.out.size
        have HE2 := Lib.hid e2
        have HXK : Hid (∀ s, x = some s → s.Ok) := Lib.hid (fun s e => HSK.out s r (by rw [e]))
        clear e1 e2 hr5 hg5 hO hR hGr HGE HSL HSG c0 hlen
        go_wp2_with (at_builtin; refine wpList_own_src _ rfl _ _ 72 72 rfl w.heap.size 100 i0 (.agg #[.bool false, .int .u64 0, .int .u64 0, .int .u64 0, .int .u64 0]) 5 40 Tryd.underlying72 hi hz0 hz1 hz2 rfl (by decide) _ _ _ rfl (World.ownsRow.alloc HO5.out.own _) _ 1 [.bool b0, .int .u64 p0, .int .u64 q0, .int .u64 r0, .int .u64 s0] rfl (srcG_one _ _ _ _ _ _) (by unfold maxLen; omega) (by omega) (by simp; omega) ?_)
        intro v9 w9 hown9 hg9
        have O9 : Hid (OwnR signRel 100 5 (fun q => w.heap.size ≤ q) w9 w.heap.size v9 (css ++ [[.bool b0, .int .u64 p0, .int .u64 q0, .int .u64 r0, .int .u64 s0]]) (l ++ [x])) := Lib.hid (HO5.out.push sign_keeps (fun q hq _ => Below.heap_alloc _ _ _ hq) (by simp) hg9 rfl (fun u hu => by simp at hu; rcases hu with rfl | rfl | rfl | rfl | rfl <;> rfl) hown9 ⟨HE2.out.symm, HXK.out⟩)
        have HK9 : Hid (∀ k, k < w.heap.size → w9.heap[k]? = w5.heap[k]?) := Lib.hid (fun k hk => (hg9.gb.block k (by simp; omega) (fun e => by have := (World.ownsRow.lt HO5.out.own k e.symm).1; omega)).trans (Below.heap_alloc _ _ _ (by omega)))
        have HS9 : Hid (w5.heap.size ≤ w9.heap.size) := Lib.hid (by have := hg9.gb.size; simp at this; omega)
        have R9 : Hid (RdAt w9 rb r) := Lib.hid ⟨(World.cell?_of_block (w := w5) (HK9.out rb HLT.out)).trans HR5.out.c, (World.frozen?_of_block (w := w5) (HK9.out rb HLT.out)).trans HR5.out.f, Nat.lt_of_lt_of_le HR5.out.lt HS9.out⟩
        have G9 : Hid (w.grownBy w9 (some rb)) := Lib.hid ⟨hg9.gb.os.trans HG5.out.os, hg9.gb.tape.trans HG5.out.tape, hg9.gb.output.trans HG5.out.output, Nat.le_trans HG5.out.size HS9.out, fun k hk hne => (HK9.out k hk).trans (HG5.out.block k hk hne)⟩
        clear hown9 hg9
        go_wp2_with fail
        go_roundw
        case rel => exact ⟨l ++ [x], r, _, m, HGE2, HN5, by simp; omega, O9, R9, G9⟩
        case measure => rw [HLR.out, R9.out.len]; exact HLEN.out
/-- A piece's cells. -/
def pieceRel (S : Nat → Prop) (w : World) (p : PieceN) (cs : List Value) : Prop := match p with
  | none => cs = [.bool true, .slice none 0 0]
  | some l => ∃ v, cs = [.bool false, v] ∧ SignsC S w v l ∧ l.length ≤ 4194304
theorem piece_keeps : Keeps pieceRel := by
  rintro S S' w w' (_ | l) cs h hk
  · exact h
  · obtain ⟨v, rfl, h1, h2⟩ := h
    exact ⟨v, rfl, h1.kept sign_keeps hk, h2⟩
abbrev PiecesC := RowsC pieceRel 2
theorem Tryd.info74g : (Tryd.prog.info? 74).map (fun i => (i.zero, i.size, i.bytes)) = some (some (.agg #[.bool false, .slice none 0 0]), 2, 32) := by kernel_rfl
theorem srcP_one (w : World) (b : Bool) (a : Option Addr) (n c : Nat) : Src Tryd.prog 2 44 (.slice (some ⟨w.heap.size, 0, none⟩) 1 1) 1 [.bool b, .slice a n c] (w.alloc (.cells #[.bool b, .slice a n c] 74)) :=
  Src.ofSlice _ Tryd.underlying44 _ 1 1 _ rfl (fun j u hj => by
    have h0 := new_five w #[.bool b, .slice a n c] 74
    rw [add_pos, cell_of_row _ _ _ _ _ _ h0, Nat.zero_add]
    simpa using hj) (fun u hu => by
    simp at hu
    rcases hu with rfl | rfl <;> rfl)
/-- Pieces, or it gives up. -/
def PiecesP (w : World) (res : Option (List PieceN)) (e : Ending) (w' : World) : Prop := match res with
  | none => e = .panicked [{ v := .iface 24 (.int .i64 60), recovered := false }] ∧ Below w.heap.size w w'
  | some l => ∃ v, e = .returned v ∧ PiecesC (fun k => w.heap.size ≤ k ∧ k < w'.heap.size) w' v l ∧ l.length ≤ 4194304 ∧ Below w.heap.size w w'
def joinP (l : List PieceN) (o : Option (List PieceN)) : Option (List PieceN) := match o with
  | none => none
  | some m => some (l ++ m)
theorem readN_cons (t : Txt) (r : List Txt) : readN (t :: r) = match pieceN t, readN r with
    | some p, some l => some (p :: l)
    | _, _ => none := rfl
theorem joinP_none (l : List PieceN) (t : Txt) (r : List Txt) (h : pieceN t = none) : joinP l (readN (t :: r)) = none := by
  rw [readN_cons, h]; rfl
theorem joinP_some (l : List PieceN) (t : Txt) (r : List Txt) (p : PieceN) (h : pieceN t = some p) : joinP l (readN (t :: r)) = joinP (l ++ [p]) (readN r) := by
  rw [readN_cons, h]
  cases readN r <;> simp [joinP]
/-- What strings.Split makes of a pattern. -/
theorem split_raw (p : Txt) (w : World) (hp : p.length ≤ 4194304) (hE : PEnv w) : Calls Tryd.prog 44 #[.string ⟨p.toArray⟩, .string ⟨#[47]⟩] w fun e w' => ∃ v, e = .returned v ∧ StrsC (fun k => w.heap.size ≤ k ∧ k < w'.heap.size) w' v (splitL p) ∧ Below w.heap.size w w' := by
  obtain ⟨m, hm⟩ := hE
  have hc := Tryd.strings_Split ⟨p.toArray⟩ ⟨#[47]⟩ m w (by rw [at_size]; omega) hm (by decide)
  have hl : countB ⟨p.toArray⟩ ⟨#[47]⟩ + 1 = (splitB ⟨#[47]⟩ 0 (countB ⟨p.toArray⟩ ⟨#[47]⟩) ⟨p.toArray⟩).length := by
    have := congrArg List.length (split_names p)
    rw [List.length_map, splitL_len] at this
    rw [this, countB_one]
  have hn := split_names p
  rw [hl] at hc
  generalize splitB ⟨#[47]⟩ 0 (countB ⟨p.toArray⟩ ⟨#[47]⟩) ⟨p.toArray⟩ = xs at *
  have HS := strs_of w xs
  rw [hn] at HS
  refine hc.mono ?_
  rintro e w1 ⟨rfl, rfl⟩
  exact ⟨_, rfl, HS.kept (fun k hk => ⟨by simpa using hk, rfl⟩), (Below.refl _ _).alloc (Nat.le_refl _) _⟩
end Go.Proofs.YthigepjddfdbmaaDoor
