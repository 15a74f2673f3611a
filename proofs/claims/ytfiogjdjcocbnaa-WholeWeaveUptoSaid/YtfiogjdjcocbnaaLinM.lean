/- The walk of Patch. -/
import Derived.Test.YtfiogjdjcocbnaaLinL
import Derived.Deep.Cut
namespace Go.Proofs.Ytfiogjdjcocbnaa
open Go.RowKit

/-- How many new lines hunks have. -/
def newsN : List (HunkN (List UInt8)) → Nat
  | [] => 0
  | h :: r => h.new.length + newsN r
theorem box3 {w w' : World} {b : Nat} {x y z : Value} {t : TypeId} (h : w.heap[b]? = some (.cells #[x, y, z] t (0, 0))) (hk : w'.heap[b]? = w.heap[b]?) : w'.cell? ⟨b, 0, none⟩ = some x ∧ w'.cell? ⟨b, 1, none⟩ = some y ∧ w'.cell? ⟨b, 2, none⟩ = some z := by
  have h2 := hk.trans h
  exact ⟨by rw [cell_of_row _ _ _ _ _ _ h2]; rfl, by rw [cell_of_row _ _ _ _ _ _ h2]; rfl, by rw [cell_of_row _ _ _ _ _ _ h2]; rfl⟩
theorem patch_no (S T : Nat → Prop) (va vh : Value) (a : List (List UInt8)) (hs : List (HunkN (List UInt8))) (w : World) (hS : ∀ k, S k → k < w.heap.size) (hT : ∀ k, T k → k < w.heap.size) (ha : StrsC S w va a) (hh : HunksC T w vh hs) (hal : a.length ≤ 4194304) (hhl : hs.length ≤ 4194304) (hol : ∀ h ∈ hs, h.old.length ≤ 4194304) (hf : fitB a 0 hs = false) :
    Calls Try.prog 31 #[va, vh] w fun e w' => e = .returned (.tuple #[.slice none 0 0, .int .i64 4]) ∧ Below w.heap.size w w' := by
  have HF := Lib.hid (fit_any S T va vh a hs w hS hT ha hh hal hhl hol)
  rw [hf] at HF
  obtain ⟨aa, ac, rfl⟩ := ha.shape
  obtain ⟨ba, bc, rfl⟩ := hh.shape
  clear hS hT ha hh hol hf
  go_enter Try.func31, Try.ntmps31
  go_wp2_with fail
  refine HF.out.mono ?_
  rintro e w1 ⟨rfl, hb1⟩
  have B1 := Lib.hid hb1
  clear hb1
  go_wp2_with fail
  go_ret2
  exact ⟨rfl, B1.out⟩
set_option maxRecDepth 100000 in
set_option maxHeartbeats 8000000 in
theorem patch_yes (S T : Nat → Prop) (va vh : Value) (a : List (List UInt8)) (hs : List (HunkN (List UInt8))) (w : World) (hS : ∀ k, S k → k < w.heap.size) (hT : ∀ k, T k → k < w.heap.size) (ha : StrsC S w va a) (hh : HunksC T w vh hs) (hal : a.length ≤ 4194304) (hhl : hs.length ≤ 4194304) (hol : ∀ h ∈ hs, h.old.length ≤ 4194304) (hn : a.length + newsN hs ≤ 8388608) (hf : fitB a 0 hs = true) :
    Calls Try.prog 31 #[va, vh] w fun e w' => ∃ v, e = .returned (.tuple #[v, .int .i64 0]) ∧ OwnS w' w.heap.size v (outN a 0 hs) ∧ Below w.heap.size w w' := by
  obtain ⟨i0, hi, hz0, hz1, hz2⟩ := info_parts Try.info9s
  have HF := Lib.hid (fit_any S T va vh a hs w hS hT ha hh hal hhl hol)
  have HFT := Lib.hid ((fit_iff a hs 0).1 hf)
  rw [hf] at HF
  obtain ⟨aa, ac, rfl⟩ := ha.shape
  obtain ⟨ba, bc, rfl⟩ := hh.shape
  have HS := Lib.hid hS
  have HT := Lib.hid hT
  have HA := Lib.hid ha
  have HH := Lib.hid hh
  have HO := Lib.hid hol
  obtain ⟨out, hout⟩ : ∃ out, outN a 0 hs = out := ⟨_, rfl⟩
  rw [hout]
  have HOUT := Lib.hid hout
  clear hS hT ha hh hol hf hout
  go_enter Try.func31, Try.ntmps31
  go_wp2_with fail
  refine HF.out.mono ?_
  rintro e w1 ⟨rfl, hb1⟩
  have B1 := Lib.hid hb1
  have hs1 := hb1.size
  clear hb1
  go_wp2_with fail
  go_loopw [6, 7, 16] (fun l d i wr => ∃ (k x : Nat) (o : List (List UInt8)), k ≤ hs.length ∧ i = .int .i64 k ∧ d = .int .i64 x ∧ x ≤ a.length ∧ Hid (o.length + newsN (hs.drop k) ≤ x + newsN hs) ∧ Hid (Fits a x (hs.drop k)) ∧ Hid (o ++ outN a x (hs.drop k) = out) ∧ Hid (OwnS wr w1.heap.size l o) ∧ Hid (Below w1.heap.size w1 wr)) (fun _ _ i _ => hs.length - (intOf i).toNat)
  case atStart => exact ⟨0, 0, [], Nat.zero_le _, rfl, rfl, Nat.zero_le _, Lib.hid (by simp), HFT, HOUT, Lib.hid (ownS_nil _ _), Lib.hid (Below.refl _ _)⟩
  case round =>
    obtain ⟨k, x, o, hk, rfl, rfl, hx, hN, hF, hE, hO, hW⟩ := hrel
    obtain ⟨la, lc, rfl⟩ := ownS_slice hO.out
    have hsz := hW.out.size
    have BW := Lib.hid (B1.out.trans (hW.out.mono hs1))
    by_cases hlt : k < hs.length
    · obtain ⟨g, og, rfl, hTg, _, _, hcs⟩ := hunk_at (HH.out.kept hunk_keeps (S' := T) (w' := wr) (fun q hq => ⟨hq, BW.out.block q (HT.out q hq)⟩)) (by omega)
      obtain ⟨h, hh⟩ : ∃ h, hs[k]? = some h := ⟨_, List.getElem?_eq_getElem hlt⟩
      have hd : hs.drop k = h :: hs.drop (k + 1) := drop_one hh
      obtain ⟨a1, c1, a2, c2, e0, e1, e2, _, r2⟩ := hcs k h hh
      obtain ⟨pl, old, new⟩ := h
      simp only at e0 e1 e2 r2
      have hF2 := hF.out
      have hE2 := hE.out
      have hN2 := hN.out
      rw [hd] at hF2 hE2 hN2
      obtain ⟨f1, f2, f3, f4, f5⟩ := hF2
      simp only at f1 f2 f3 f4 f5
      obtain ⟨p, rfl⟩ : ∃ p : Nat, pl = p := ⟨pl.toNat, by omega⟩
      rw [Int.toNat_natCast] at f4 f5
      have hpx : x ≤ p := by omega
      have hpa : p ≤ a.length := by omega
      have hpo : p + old.length ≤ a.length := by omega
      have hN3 : o.length + (new.length + newsN (hs.drop (k + 1))) ≤ x + newsN hs := hN2
      have hE3 : o ++ ((a.drop x).take (p - x) ++ (new ++ outN a (p + old.length) (hs.drop (k + 1)))) = out := by
        have h := hE2
        unfold outN at h
        rwa [Int.toNat_natCast] at h
      obtain ⟨a3, c3, hrc, hsc⟩ := HA.out.cut hpx hpa
      have hcl : ((a.drop x).take (p - x)).length = p - x := by simp; omega
      have HN3 := Lib.hid hN3
      have HE3 : Hid (o ++ (a.drop x).take (p - x) ++ new ++ outN a (p + old.length) (hs.drop (k + 1)) = out) := Lib.hid (by rw [← hE3]; simp)
      have HF5 := Lib.hid f5
      have hol : o.length + ((a.drop x).take (p - x)).length + new.length ≤ 8388608 := by omega
      have HOL : Hid ((o ++ (a.drop x).take (p - x) ++ new).length + newsN (hs.drop (k + 1)) ≤ p + old.length + newsN hs) := Lib.hid (by simp only [List.length_append]; omega)
      generalize (a.drop x).take (p - x) = cut at *
      have SC := Lib.hid hsc
      have R2 := Lib.hid r2
      have HBX := Lib.hid (new_five wr #[.int .i64 (p : Int), .slice a1 old.length c1, .slice a2 new.length c2] 58)
      have W2 : Hid (Below w1.heap.size w1 (wr.alloc (.cells #[.int .i64 (p : Int), .slice a1 old.length c1, .slice a2 new.length c2] 58))) := Lib.hid (hW.out.alloc hsz _)
      have hlt2 : wr.heap.size < (wr.alloc (.cells #[.int .i64 (p : Int), .slice a1 old.length c1, .slice a2 new.length c2] 58)).heap.size := by simp
      have HK2 : Hid (∀ q, q < wr.heap.size → (wr.alloc (.cells #[.int .i64 (p : Int), .slice a1 old.length c1, .slice a2 new.length c2] 58)).heap[q]? = wr.heap[q]?) := Lib.hid (fun q hq => Below.heap_alloc _ _ _ hq)
      clear hcs hh hd r2 hsc f1 f2 f3 f4 f5 hN2 hE2 hN3 hE3 hcl hN hF hE
      go_upto_region 8 with fail
      generalize wr.alloc (.cells #[.int .i64 (p : Int), .slice a1 old.length c1, .slice a2 new.length c2] 58) = wp at *
      have O2 : Hid (OwnS wp w1.heap.size (.slice la o.length lc) o) := Lib.hid (own_below hO.out (fun q _ hq => HK2.out q hq))
      have SRC2 : Hid (Src Try.prog 1 24 (.slice a3 cut.length c3) cut.length (sv cut) wp) := Lib.hid (SC.out.kept (S' := S) (fun q hq => ⟨hq, (HK2.out q (by have := HS.out q hq; omega)).trans (BW.out.block q (HS.out q hq))⟩)).src
      obtain ⟨b0, b1, b2⟩ := box3 HBX.out rfl
      go_wp2_with (at_builtin; refine wpList_own_src _ rfl _ _ 24 24 rfl w1.heap.size 9 i0 (.string ByteArray.empty) 1 16 Try.underlying24 hi hz0 hz1 hz2 rfl (by decide) _ _ _ rfl O2.out _ cut.length (sv cut) rfl SRC2.out (by unfold maxLen; omega) (by omega) (by omega) ?_)
      intro v5 w5 hown5 hg5
      have O5 : Hid (OwnS w5 w1.heap.size v5 (o ++ cut)) := Lib.hid (ownS_more rfl hown5)
      have hob : (Value.slice la o.length lc).ownBlock ≠ some wr.heap.size := fun e => by have := (World.ownsRow.lt hO.out _ e).2; omega
      have K5 : Hid (w5.heap[wr.heap.size]? = wp.heap[wr.heap.size]?) := Lib.hid (hg5.gb.block _ hlt2 (fun e => hob e.symm))
      have G5 : Hid (∀ q, q < w1.heap.size → w5.heap[q]? = wp.heap[q]?) := Lib.hid (fun q hq => hg5.gb.block q (by omega) (fun e => by have := (World.ownsRow.lt O2.out _ e.symm).1; omega))
      have W5 : Hid (Below w1.heap.size w1 w5) := Lib.hid (W2.out.grown hg5.gb W2.out.size (fun q hq => (World.ownsRow.lt O2.out q hq).1))
      have hs5 := hg5.size
      obtain ⟨l5a, l5c, rfl⟩ := ownS_slice O5.out
      have hob5 : Hid ((Value.slice l5a (o ++ cut).length l5c).ownBlock ≠ some wr.heap.size) := Lib.hid (fun e => by
        rcases hg5.own _ e with e2 | e2
        · exact hob e2
        · omega)
      clear hown5 hg5 b0 b1 b2 hob
      obtain ⟨b0, b1, b2⟩ := box3 HBX.out K5.out
      have SRC5 : Hid (Src Try.prog 1 24 (.slice a2 new.length c2) new.length (sv new) w5) := Lib.hid (R2.out.kept (S' := T) (fun q hq => ⟨hq, (G5.out q (by have := HT.out q hq; omega)).trans (HK2.out q (by have := HT.out q hq; omega))⟩)).src
      have hl5 : (o ++ cut).length = o.length + cut.length := List.length_append
      have hl5b : (o ++ cut).length ≤ 8388608 := by omega
      have hl5c : (o ++ cut).length + new.length ≤ 8388608 := by omega
      have HOA : Hid (o ++ cut ++ new ++ outN a (p + old.length) (hs.drop (k + 1)) = out) := HE3
      generalize o ++ cut = o2 at *
      clear hl5
      go_wp2_with (at_builtin; refine wpList_own_src _ rfl _ _ 24 24 rfl w1.heap.size 9 i0 (.string ByteArray.empty) 1 16 Try.underlying24 hi hz0 hz1 hz2 rfl (by decide) _ _ _ rfl O5.out _ new.length (sv new) rfl SRC5.out (by unfold maxLen; omega) (by omega) (by omega) ?_)
      intro v6 w6 hown6 hg6
      have O6 : Hid (OwnS w6 w1.heap.size v6 (o2 ++ new)) := Lib.hid (ownS_more rfl hown6)
      have K6 : Hid (w6.heap[wr.heap.size]? = wp.heap[wr.heap.size]?) := Lib.hid ((hg6.gb.block _ (by omega) (fun e => hob5.out e.symm)).trans K5.out)
      have W6 : Hid (Below w1.heap.size w1 w6) := Lib.hid (W5.out.grown hg6.gb W5.out.size (fun q hq => (World.ownsRow.lt O5.out q hq).1))
      clear hown6 hg6 b0 b1 b2
      obtain ⟨b0, b1, b2⟩ := box3 HBX.out K6.out
      go_wp2_with fail
      go_roundw
      case rel => exact ⟨k + 1, p + old.length, o2 ++ new, by omega, by go_num, by go_num, hpo, HOL, HF5, HOA, O6, W6⟩
      case measure => simp [intOf]; omega
    · have hE2 := hE.out
      rw [List.drop_eq_nil_of_le (show hs.length ≤ k by omega)] at hE2
      have hE3 : o ++ a.drop x = out := hE2
      have hN2 := hN.out
      rw [List.drop_eq_nil_of_le (show hs.length ≤ k by omega)] at hN2
      have hN3 : o.length + 0 ≤ x + newsN hs := hN2
      obtain ⟨a3, c3, hrc, hsc⟩ := HA.out.cutL hx
      have hdl : (a.drop x).length = a.length - x := by simp
      have hol : o.length + (a.drop x).length ≤ 8388608 := by omega
      have SRC2 : Hid (Src Try.prog 1 24 (.slice a3 (a.drop x).length c3) (a.drop x).length (sv (a.drop x)) wr) := Lib.hid (hsc.kept (S' := S) (fun q hq => ⟨hq, BW.out.block q (HS.out q hq)⟩)).src
      have HE3 := Lib.hid hE3
      generalize a.drop x = cut at *
      clear hE2 hE3 hN2 hN3 hsc hdl hE hN hF
      go_wp2_with (at_builtin; refine wpList_own_src _ rfl _ _ 24 24 rfl w1.heap.size 9 i0 (.string ByteArray.empty) 1 16 Try.underlying24 hi hz0 hz1 hz2 rfl (by decide) _ _ _ rfl hO.out _ cut.length (sv cut) rfl SRC2.out (by unfold maxLen; omega) (by omega) (by omega) ?_)
      intro v5 w5 hown5 hg5
      have O5 : Hid (OwnS w5 w1.heap.size v5 (o ++ cut)) := Lib.hid (ownS_more rfl hown5)
      have W5 : Hid (Below w1.heap.size w1 w5) := Lib.hid (hW.out.grown hg5.gb hsz (fun q hq => (World.ownsRow.lt hO.out q hq).1))
      clear hown5 hg5
      go_wp2_with fail
      go_ret2
      exact ⟨_, rfl, own_base (by rw [← HE3.out]; exact O5.out) hs1, B1.out.trans (W5.out.mono hs1)⟩
end Go.Proofs.Ytfiogjdjcocbnaa
