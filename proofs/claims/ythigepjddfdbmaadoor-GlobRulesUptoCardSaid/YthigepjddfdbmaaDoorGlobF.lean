/- read: all pieces of a pattern. -/
import Derived.Test.YthigepjddfdbmaaDoorGlobE
namespace Go.Proofs.YthigepjddfdbmaaDoor
open Go.RowKit Go.Lib

/-- Pieces that are read so far, in a row of one's own. -/
def PRow (w1 : World) (o : Value) (css : List (List Value)) (ps : List PieceN) (W : World) : Prop := OwnR pieceRel 74 2 (fun q => w1.heap.size ≤ q) W w1.heap.size o css ps
set_option maxRecDepth 100000 in
set_option maxHeartbeats 8000000 in
theorem read_any (p : Txt) (w : World) (hp : p.length ≤ 4194300) (hE : PEnv w) : Calls Tryd.prog 25 #[.string ⟨p.toArray⟩] w (PiecesP w (readN (splitL p))) := by
  obtain ⟨i0, hi, hz0, hz1, hz2⟩ := info_parts Tryd.info74g
  have HSP := Lib.hid (split_raw p w (by omega) hE)
  have hsl : (splitL p).length ≤ 4194301 := by rw [splitL_len]; have := List.count_le_length (a := (47 : UInt8)) (l := p); omega
  have HTL : Hid (∀ x ∈ splitL p, x.length ≤ 4194304) := Lib.hid (fun x hx => by have := splitL_short p x hx; omega)
  obtain ⟨G, hG⟩ : ∃ G, readN (splitL p) = G := ⟨_, rfl⟩
  have HG : Hid (joinP [] (readN (splitL p)) = G) := Lib.hid (by rw [hG]; cases G <;> rfl)
  rw [hG]
  generalize splitL p = L at *
  clear hG hE
  go_enter Tryd.func25, Tryd.ntmps25
  go_wp2_with fail
  refine HSP.out.mono ?_
  rintro e w1 ⟨v1, rfl, hs1, hb1⟩
  obtain ⟨la, lc, rfl⟩ := hs1.shape
  have HS1 := Lib.hid hs1
  have B1 := Lib.hid hb1
  have hz01 := hb1.size
  have HST : Hid (∀ W, Below w1.heap.size w1 W → StrsC (fun k => k < w1.heap.size) W (.slice la L.length lc) L) := Lib.hid (fun W hW => HS1.out.kept (fun k hk => ⟨hk.2, hW.block k hk.2⟩))
  clear hs1 hb1 HSP
  go_wp2_with fail
  go_loopw [3, 10] (fun o i wr => ∃ (k : Nat) (ps : List PieceN) (css : List (List Value)), k ≤ L.length ∧ i = .int .i64 k ∧ ps.length ≤ k ∧ Hid (joinP ps (readN (L.drop k)) = G) ∧ Hid (PRow w1 o css ps wr) ∧ Hid (Below w1.heap.size w1 wr)) (fun _ i _ => L.length - (intOf i).toNat)
  case atStart => exact ⟨0, [], [], Nat.zero_le _, rfl, Nat.le_refl _, HG, Lib.hid (OwnR.nil _ _ _ _ _ _), Lib.hid (Below.refl _ _)⟩
  case round =>
    obtain ⟨k, ps, css, hk, rfl, hpk, hE, hO, hBl⟩ := hrel
    obtain ⟨oa, oc, rfl⟩ := ownR_shape hO.out
    have hsz := hBl.out.size
    by_cases hlt : k < L.length
    · obtain ⟨lb, rfl, _, hlc, hcell⟩ := (HST.out wr hBl.out).at (by omega)
      have c1 := hcell k hlt
      have HD : Hid (L.drop k = L.getD k [] :: L.drop (k + 1)) := Lib.hid (by rw [List.drop_eq_getElem_cons hlt]; simp [List.getD, hlt])
      have htl : (L.getD k []).length ≤ 4194304 := HTL.out _ (by simp only [List.getD, List.getElem?_eq_getElem hlt, Option.getD_some]; exact List.getElem_mem hlt)
      clear hcell
      generalize L.getD k [] = tt at *
      rw [HD.out] at hE
      by_cases h0 : tt = []
      · have HE2 : Hid (G = none) := Lib.hid (by rw [← hE.out]; exact joinP_none _ _ _ (by unfold pieceN; rw [if_pos h0]))
        subst h0
        go_wp2_with fail
        rw [HE2.out]
        exact ⟨rfl, rfl, B1.out.trans (hBl.out.mono hz01)⟩
      have g0 : tt.isEmpty = false := by cases tt; exact absurd rfl h0; rfl
      by_cases h42 : tt = [42, 42]
      · have g1 : (tt == [42, 42]) = true := by rw [h42]; rfl
        have HE2 : Hid (joinP (ps ++ [none]) (readN (L.drop (k + 1))) = G) := Lib.hid (by rw [← hE.out]; exact (joinP_some _ _ _ _ (by unfold pieceN; rw [if_neg h0, if_pos h42])).symm)
        clear h0 h42
        go_wp2_with (at_builtin; refine wpList_own_src _ rfl _ _ 44 44 rfl w1.heap.size 74 i0 (.agg #[.bool false, .slice none 0 0]) 2 32 Tryd.underlying44 hi hz0 hz1 hz2 rfl (by decide) _ _ _ rfl (World.ownsRow.alloc hO.out.own _) _ 1 [.bool true, .slice none 0 0] rfl (srcP_one _ _ _ _ _) (by unfold maxLen; omega) (by omega) (by simp; omega) ?_)
        intro v9 w9 hown9 hg9
        have O9 : Hid (PRow w1 v9 (css ++ [[.bool true, .slice none 0 0]]) (ps ++ [none]) w9) := Lib.hid (OwnR.push piece_keeps hO.out (fun q hq _ => Below.heap_alloc _ _ _ hq) (by simp) hg9 rfl (fun u hu => by simp at hu; rcases hu with rfl | rfl <;> rfl) hown9 rfl)
        have B9 : Hid (Below w1.heap.size w1 w9) := Lib.hid ((hBl.out.alloc hBl.out.size _).grown hg9.gb (by simp; omega) (fun q hq => (World.ownsRow.lt hO.out.own q hq).1))
        clear hown9 hg9
        go_wp2_with fail
        go_roundw
        case rel => exact ⟨k + 1, ps ++ [none], _, by omega, by go_num, by simp; omega, HE2, O9, B9⟩
        case measure => simp [intOf]; omega
      · have g1 : (tt == [42, 42]) = false := by simpa using h42
        have hpc : pieceN tt = match signsGo tt.length tt with
          | none => none
          | some l => some (some l) := by unfold pieceN; rw [if_neg h0, if_neg h42]; rfl
        have HPC := Lib.hid hpc
        have HBX : Hid (Below wr.heap.size wr (wr.alloc (.cells #[.string ⟨tt.toArray⟩] 76))) := Lib.hid ((Below.refl _ wr).alloc (Nat.le_refl _) _)
        have HRD : Hid (RdAt (wr.alloc (.cells #[.string ⟨tt.toArray⟩] 76)) wr.heap.size tt) := Lib.hid (by
          have hk2 := new_five wr #[.string ⟨tt.toArray⟩] 76
          exact ⟨by rw [cell_of_row _ _ _ _ _ _ hk2]; rfl, frozen_box hk2 0, by simp⟩)
        clear h0 h42 hpc
        go_wp2_with fail
        generalize hwb : wr.alloc (.cells #[.string ⟨tt.toArray⟩] 76) = wb at *
        have HSG := Lib.hid (signs_any wr.heap.size tt wb HRD.out htl)
        clear hwb
        generalize signsGo tt.length tt = res at *
        refine HSG.out.mono ?_
        intro e w5 h5
        cases res with
        | none =>
          obtain ⟨rfl, hg⟩ := h5
          have HE2 : Hid (G = none) := Lib.hid (by rw [← hE.out]; exact joinP_none _ _ _ HPC.out)
          go_wp2_with fail
          rw [HE2.out]
          exact ⟨rfl, rfl, B1.out.trans ((gb_bel (hBl.out.trans (HBX.out.mono hsz)) hsz (Nat.le_trans hsz HBX.out.size) hg).mono hz01)⟩
        | some l =>
          obtain ⟨v5, rfl, hs5, hl5, hg5⟩ := h5
          have HE2 : Hid (joinP (ps ++ [some l]) (readN (L.drop (k + 1))) = G) := Lib.hid (by rw [← hE.out]; exact (joinP_some _ _ _ _ HPC.out).symm)
          have B5 : Hid (Below w1.heap.size w1 w5) := Lib.hid (gb_bel (hBl.out.trans (HBX.out.mono hsz)) hsz (Nat.le_trans hsz HBX.out.size) hg5)
          have hs51 := hg5.size
          have hsb := HBX.out.size
          have hO5 : Hid (PRow w1 (.slice oa ps.length oc) css ps w5) := Lib.hid (OwnR.on piece_keeps hO.out (fun q hq _ => (hg5.block q (by omega) (fun e => by injection e with e; omega)).trans (HBX.out.block q hq)) (by omega))
          have HOL : Hid (∀ q, (Value.slice oa ps.length oc).ownBlock = some q → q < wr.heap.size) := Lib.hid (fun q hq => (World.ownsRow.lt hO.out.own q hq).2)
          have HS5 := Lib.hid hs5
          obtain ⟨a5, c5, rfl⟩ := hs5.shape
          have hsw5 := B5.out.size
          clear hs5 hg5 HSG hO HPC
          go_wp2_with (at_builtin; refine wpList_own_src _ rfl _ _ 44 44 rfl w1.heap.size 74 i0 (.agg #[.bool false, .slice none 0 0]) 2 32 Tryd.underlying44 hi hz0 hz1 hz2 rfl (by decide) _ _ _ rfl (World.ownsRow.alloc hO5.out.own _) _ 1 [.bool false, .slice a5 l.length c5] rfl (srcP_one _ _ _ _ _) (by unfold maxLen; omega) (by omega) (by simp; omega) ?_)
          intro v9 w9 hown9 hg9
          have O9 : Hid (PRow w1 v9 (css ++ [[.bool false, .slice a5 l.length c5]]) (ps ++ [some l]) w9) := Lib.hid (OwnR.push piece_keeps hO5.out (fun q hq _ => Below.heap_alloc _ _ _ hq) (by simp) hg9 rfl (fun u hu => by simp at hu; rcases hu with rfl | rfl <;> rfl) hown9 ⟨_, rfl, HS5.out.kept sign_keeps (fun q hq => ⟨⟨by omega, by simp; omega, fun e => by have := HOL.out q e; omega⟩, Below.heap_alloc _ _ _ hq.2⟩), hl5⟩)
          have B9 : Hid (Below w1.heap.size w1 w9) := Lib.hid ((B5.out.alloc B5.out.size _).grown hg9.gb (by simp; omega) (fun q hq => (World.ownsRow.lt hO5.out.own q hq).1))
          clear hown9 hg9
          go_wp2_with fail
          go_roundw
          case rel => exact ⟨k + 1, ps ++ [some l], _, by omega, by go_num, by simp; omega, HE2, O9, B9⟩
          case measure => simp [intOf]; omega
    · have HGE : Hid (G = some ps) := Lib.hid (by
        rw [← hE.out, List.drop_eq_nil_of_le (by omega)]
        simp [readN, joinP])
      go_wp2_with fail
      go_ret
      rw [HGE.out]
      exact ⟨_, rfl, (OwnR.rows piece_keeps hO.out).kept piece_keeps (fun q hq => ⟨⟨by rcases hq.1 with h | h <;> omega, hq.2⟩, rfl⟩), by omega, B1.out.trans (hBl.out.mono hz01)⟩
end Go.Proofs.YthigepjddfdbmaaDoor
