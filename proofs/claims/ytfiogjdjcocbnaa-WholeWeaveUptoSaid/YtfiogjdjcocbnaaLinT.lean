/- The walks of the laws' plain, and of the reference's Patch; of the law LinesPatch. -/
import Derived.Test.YtfiogjdjcocbnaaLinQ
namespace Go.Proofs.Ytfiogjdjcocbnaa
open Go.RowKit

theorem Try.info91r : (Try.prog.info? 91).map (fun i => (i.zero, i.size, i.bytes)) = some (some (.agg #[.int .i64 0, .slice none 0 0, .slice none 0 0]), 3, 56) := by kernel_rfl
theorem srcR_one (w : World) (x : Int) (a1 a2 : Option Addr) (n1 c1 n2 c2 : Nat) : Src Try.prog 3 41 (.slice (some ⟨w.heap.size, 0, none⟩) 1 1) 1 [.int .i64 x, .slice a1 n1 c1, .slice a2 n2 c2] (w.alloc (.cells #[.int .i64 x, .slice a1 n1 c1, .slice a2 n2 c2] 91)) :=
  Src.ofSlice _ Try.underlying41 _ 1 1 _ rfl (fun j u hj => by
    rw [add_pos, Nat.zero_add, World.cell?_alloc_mark]; simpa using hj) (fun u hu => by
    simp at hu; rcases hu with rfl | rfl | rfl <;> rfl)
set_option maxRecDepth 100000 in
set_option maxHeartbeats 8000000 in
theorem plain_any (T : Nat → Prop) (vh : Value) (hs : List (HunkN (List UInt8))) (w : World) (hT : ∀ k, T k → k < w.heap.size) (hh : HunksC T w vh hs) (hhl : hs.length ≤ 4194304) :
    Calls Try.prog 30 #[vh] w fun e w' => ∃ v, e = .returned v ∧ HunksC (fun k => k < w'.heap.size) w' v hs ∧ Below w.heap.size w w' := by
  obtain ⟨j0, hj, hy0, hy1, hy2⟩ := info_parts Try.info91r
  obtain ⟨ba, bc, rfl⟩ := hh.shape
  have HT := Lib.hid hT
  have HH := Lib.hid hh
  have HR := Lib.hid (Below.refl w.heap.size w)
  clear hT hh
  go_enter Try.func30, Try.ntmps30
  go_wp2_with fail
  go_loopw [3, 8] (fun l i wr => ∃ (k : Nat) (css : List (List Value)), k ≤ hs.length ∧ i = .int .i64 k ∧ Hid (OwnR hunkRel 91 3 (fun _ => True) wr w.heap.size l css (hs.take k)) ∧ Hid (Below w.heap.size w wr)) (fun _ i _ => hs.length - (intOf i).toNat)
  case atStart => exact ⟨0, [], Nat.zero_le _, rfl, Lib.hid (OwnR.nil _ _ _ _ _ _), HR⟩
  case round =>
    obtain ⟨k, css, hk, rfl, hO, hW⟩ := hrel
    obtain ⟨hva, hvc, rfl⟩ := ownR_slice hO.out
    have hsz := hW.out.size
    by_cases hlt : k < hs.length
    · obtain ⟨g, o, rfl, hTg, _, _, hcs⟩ := hunk_at (HH.out.kept hunk_keeps (S' := T) (w' := wr) (fun q hq => ⟨hq, hW.out.block q (HT.out q hq)⟩)) (by omega)
      obtain ⟨h, hh⟩ : ∃ h, hs[k]? = some h := ⟨_, List.getElem?_eq_getElem hlt⟩
      have hts : hs.take (k + 1) = hs.take k ++ [h] := by
        rw [List.take_succ_eq_append_getElem hlt]
        rw [List.getElem?_eq_getElem hlt] at hh
        injection hh with hh; rw [hh]
      obtain ⟨a1, c1, a2, c2, e0, e1, e2, r1, r2⟩ := hcs k h hh
      obtain ⟨pl, old, new⟩ := h
      simp only at e0 e1 e2 r1 r2
      have HTS := Lib.hid hts
      have hkl : (hs.take k).length ≤ 4194304 := by simp; omega
      have R1 := Lib.hid r1
      have R2 := Lib.hid r2
      generalize hs.take k = ht at *
      have W2 : Hid (Below w.heap.size w (wr.alloc (.cells #[.int .i64 pl, .slice a1 old.length c1, .slice a2 new.length c2] 58))) := Lib.hid (hW.out.alloc hsz _)
      have HBX := Lib.hid (new_five wr #[.int .i64 pl, .slice a1 old.length c1, .slice a2 new.length c2] 58)
      have HK2 : Hid (∀ q, q < wr.heap.size → (wr.alloc (.cells #[.int .i64 pl, .slice a1 old.length c1, .slice a2 new.length c2] 58)).heap[q]? = wr.heap[q]?) := Lib.hid (fun q hq => Below.heap_alloc _ _ _ hq)
      have hlt2 : wr.heap.size < (wr.alloc (.cells #[.int .i64 pl, .slice a1 old.length c1, .slice a2 new.length c2] 58)).heap.size := by simp
      clear hcs hh hts r1 r2
      go_upto_region 5 with fail
      obtain ⟨b0, b1, b2⟩ := box3 HBX.out rfl
      clear e0 e1 e2
      generalize wr.alloc (.cells #[.int .i64 pl, .slice a1 old.length c1, .slice a2 new.length c2] 58) = wp at *
      have OW : Hid (wp.ownsRow w.heap.size 91 3 (.slice hva ht.length hvc) ht.length css.flatten) := Lib.hid (own_below hO.out.own (fun q _ hq => HK2.out q hq))
      go_wp2_with (at_builtin; refine wpList_own_src _ rfl _ _ 41 41 rfl w.heap.size 91 j0 (.agg #[.int .i64 0, .slice none 0 0, .slice none 0 0]) 3 56 Try.underlying41 hj hy0 hy1 hy2 rfl (by decide) _ _ _ rfl (World.ownsRow.alloc OW.out _) _ 1 [.int .i64 pl, .slice a1 old.length c1, .slice a2 new.length c2] rfl (srcR_one _ _ _ _ _ _ _ _) (by unfold maxLen; omega) (by omega) (by simp; omega) ?_)
      intro v5 w5 hown5 hg5
      have B5 : Hid (Below w.heap.size w w5) := Lib.hid ((W2.out.alloc W2.out.size _).grown hg5.gb (by simp; omega) (fun q hq => (World.ownsRow.lt OW.out q hq).1))
      have O5 := Lib.hid (hO.out.push hunk_keeps (fun q hq _ => (Below.heap_alloc _ _ _ (by omega)).trans (HK2.out q hq)) (by simp; omega) hg5 rfl (fun u hu => by simp at hu; rcases hu with rfl | rfl | rfl <;> rfl) hown5 (e := ⟨pl, old, new⟩) ⟨_, _, rfl, R1.out.kept (fun q hq => by
          have h1 := HT.out q hq
          exact ⟨⟨trivial, by simp; omega, fun e => by have := (World.ownsRow.lt hO.out.own q e).1; omega⟩, (Below.heap_alloc _ _ _ (by omega)).trans (HK2.out q (by omega))⟩), R2.out.kept (fun q hq => by
          have h1 := HT.out q hq
          exact ⟨⟨trivial, by simp; omega, fun e => by have := (World.ownsRow.lt hO.out.own q e).1; omega⟩, (Below.heap_alloc _ _ _ (by omega)).trans (HK2.out q (by omega))⟩)⟩)
      clear hown5 hg5 b0 b1 b2
      go_wp2_with fail
      go_roundw
      case rel => exact ⟨k + 1, _, by omega, by go_num, by rw [HTS.out]; exact O5, B5⟩
      case measure => simp [intOf]; omega
    · have hkl : hs.take k = hs := List.take_of_length_le (by omega)
      have HQ := Lib.hid hkl
      clear hkl
      go_wp2_with fail
      go_ret
      refine ⟨_, rfl, ?_, hW.out⟩
      have := (hO.out.rows hunk_keeps).kept hunk_keeps (S' := fun k => k < wr.heap.size) (w' := wr) (fun q hq => ⟨hq.2, rfl⟩)
      have key : ∀ t, hs.take k = t → HunksC (fun k => k < wr.heap.size) wr (.slice hva (hs.take k).length hvc) t := fun t ht => by subst ht; exact this
      exact key hs HQ.out
/-- What Patch answers. -/
def outQ (q : Bool) (l : List (List UInt8)) : List (List UInt8) := if q = true then l else []
def codeQ (q : Bool) : Int := if q = true then 0 else 4
set_option maxRecDepth 100000 in
set_option maxHeartbeats 8000000 in
theorem rpatch_any (S T : Nat → Prop) (va vh : Value) (a : List (List UInt8)) (hs : List (HunkN (List UInt8))) (w : World) (hS : ∀ k, S k → k < w.heap.size) (hT : ∀ k, T k → k < w.heap.size) (ha : StrsC S w va a) (hh : HunksC T w vh hs) (hal : a.length ≤ 4194304) (hhl : hs.length ≤ 4194304) (hol : ∀ h ∈ hs, h.old.length ≤ 4194304) (hn : a.length + newsN hs ≤ 8388608) :
    Calls Try.prog 32 #[va, vh] w fun e w' => ∃ v, e = .returned (.tuple #[v, .int .i64 (codeQ (fitB a 0 hs))]) ∧ OwnS w' w.heap.size v (outQ (fitB a 0 hs) (outN a 0 hs)) ∧ Below w.heap.size w w' := by
  obtain ⟨i0, hi, hz0, hz1, hz2⟩ := info_parts Try.info9s
  obtain ⟨aa, ac, rfl⟩ := ha.shape
  obtain ⟨ba, bc, rfl⟩ := hh.shape
  have HS := Lib.hid hS
  have HT := Lib.hid hT
  have HA := Lib.hid ha
  have HH := Lib.hid hh
  have HO := Lib.hid hol
  have HR := Lib.hid (Below.refl w.heap.size w)
  obtain ⟨q, hq⟩ : ∃ q, fitB a 0 hs = q := ⟨_, rfl⟩
  obtain ⟨out, hout⟩ : ∃ out, outN a 0 hs = out := ⟨_, rfl⟩
  rw [hq, hout]
  have Q := Lib.hid hq
  have HOUT := Lib.hid hout
  clear hS hT ha hh hol hq hout
  go_enter Try.func32, Try.ntmps32
  go_wp2_with fail
  go_loopw [6, 7, 8] (fun l d i wr => ∃ (k x : Nat) (o : List (List UInt8)), k ≤ hs.length ∧ i = .int .i64 k ∧ d = .int .i64 x ∧ x ≤ a.length ∧ Hid (o.length + newsN (hs.drop k) ≤ x + newsN hs) ∧ Hid (fitB a x (hs.drop k) = q) ∧ Hid (o ++ outN a x (hs.drop k) = out) ∧ Hid (OwnS wr w.heap.size l o) ∧ Hid (Below w.heap.size w wr)) (fun _ _ i _ => hs.length - (intOf i).toNat)
  case atStart => exact ⟨0, 0, [], Nat.zero_le _, rfl, rfl, Nat.zero_le _, Lib.hid (by simp), Q, HOUT, Lib.hid (ownS_nil _ _), HR⟩
  case round =>
    obtain ⟨k, x, o, hk, rfl, rfl, hx, hN, hF, hE, hO, hW⟩ := hrel
    obtain ⟨la, lc, rfl⟩ := ownS_slice hO.out
    have hsz := hW.out.size
    by_cases hlt : k < hs.length
    · obtain ⟨g, og, rfl, hTg, _, _, hcs⟩ := hunk_at (HH.out.kept hunk_keeps (S' := T) (w' := wr) (fun q hq => ⟨hq, hW.out.block q (HT.out q hq)⟩)) (by omega)
      obtain ⟨h, hh⟩ : ∃ h, hs[k]? = some h := ⟨_, List.getElem?_eq_getElem hlt⟩
      have hd : hs.drop k = h :: hs.drop (k + 1) := drop_one hh
      have hol := HO.out h (List.mem_of_getElem? hh)
      obtain ⟨a1, c1, a2, c2, e0, e1, e2, r1, r2⟩ := hcs k h hh
      obtain ⟨pl, old, new⟩ := h
      simp only at e0 e1 e2 r1 r2 hol
      have hF2 := hF.out
      have hE2 := hE.out
      have hN2 := hN.out
      rw [hd] at hF2 hE2 hN2
      unfold fitB at hF2
      unfold outN at hE2
      simp only at hF2 hE2
      have hN2 : o.length + (new.length + newsN (hs.drop (k + 1))) ≤ x + newsN hs := hN2
      have R1 := Lib.hid r1
      have R2 := Lib.hid r2
      have W2 : Hid (Below w.heap.size w (wr.alloc (.cells #[.int .i64 pl, .slice a1 old.length c1, .slice a2 new.length c2] 91))) := Lib.hid (hW.out.alloc hsz _)
      have HBX := Lib.hid (new_five wr #[.int .i64 pl, .slice a1 old.length c1, .slice a2 new.length c2] 91)
      have HK2 : Hid (∀ q, q < wr.heap.size → (wr.alloc (.cells #[.int .i64 pl, .slice a1 old.length c1, .slice a2 new.length c2] 91)).heap[q]? = wr.heap[q]?) := Lib.hid (fun q hq => Below.heap_alloc _ _ _ hq)
      have hlt2 : wr.heap.size < (wr.alloc (.cells #[.int .i64 pl, .slice a1 old.length c1, .slice a2 new.length c2] 91)).heap.size := by simp
      clear hcs hh hd r1 r2 hF hE hN
      go_upto_region 7 with fail
      obtain ⟨b0, b1, b2⟩ := box3 HBX.out rfl
      clear e0 e1 e2
      generalize wr.alloc (.cells #[.int .i64 pl, .slice a1 old.length c1, .slice a2 new.length c2] 91) = wp at *
      by_cases h1 : pl < x
      · have gd : decide (pl < (x : Int)) = true := decide_eq_true h1
        have HQ : Hid (q = false) := Lib.hid (by rw [← hF2, decide_eq_false (by omega)]; rfl)
        clear hF2
        go_wp2_with fail
        go_quiet (fail)
        go_wp2_with fail
        go_ret2
        exact ⟨_, by rw [HQ.out]; rfl, by rw [HQ.out]; exact ownS_nil _ _, W2.out.trans (drewn _ _ _)⟩
      · have gd : decide (pl < (x : Int)) = false := decide_eq_false h1
        by_cases h2 : (a.length : Int) < pl
        · have ge : decide ((a.length : Int) < pl) = true := decide_eq_true h2
          have HQ : Hid (q = false) := Lib.hid (by rw [← hF2, decide_eq_false (by omega)]; rfl)
          clear hF2
          go_wp2_with fail
          go_quiet (fail)
          go_wp2_with fail
          go_ret2
          exact ⟨_, by rw [HQ.out]; rfl, by rw [HQ.out]; exact ownS_nil _ _, W2.out.trans (drewn _ _ _)⟩
        · have ge : decide ((a.length : Int) < pl) = false := decide_eq_false h2
          obtain ⟨p, rfl⟩ : ∃ p : Nat, pl = p := ⟨pl.toNat, by omega⟩
          have gd2 : decide (p < x) = false := decide_eq_false (by omega)
          have ge2 : decide (a.length < p) = false := decide_eq_false (by omega)
          have hw0 : IntKind.i64.wrap ((a.length : Int) - (p : Int)) = (a.length : Int) - (p : Int) := IntWalk.i64_in _ (by omega)
          by_cases h3 : (a.length : Int) - p < (old.length : Int)
          · have gf : decide ((a.length : Int) - (p : Int) < (old.length : Int)) = true := decide_eq_true h3
            have HQ : Hid (q = false) := Lib.hid (by rw [← hF2, decide_eq_false (by omega)]; rfl)
            clear hF2
            go_wp2_with fail
            go_quiet (fail)
            go_wp2_with fail
            go_ret2
            exact ⟨_, by rw [HQ.out]; rfl, by rw [HQ.out]; exact ownS_nil _ _, W2.out.trans (drewn _ _ _)⟩
          · have gf : decide ((a.length : Int) - (p : Int) < (old.length : Int)) = false := decide_eq_false h3
            rw [decide_eq_true (by omega), Bool.true_and, Int.toNat_natCast] at hF2
            rw [Int.toNat_natCast] at hE2
            have hpo : p ≤ p + old.length := by omega
            have hpa : p + old.length ≤ a.length := by omega
            have hpx : x ≤ p := by omega
            have hpa2 : p ≤ a.length := by omega
            obtain ⟨a3, c3, hrc, hsc⟩ := HA.out.cut hpo hpa
            obtain ⟨a4, c4, hrd, hsd⟩ := HA.out.cut hpx hpa2
            have e3 : p + old.length - p = old.length := by omega
            rw [e3] at hrc hsc
            have hil : ((a.drop p).take old.length).length ≤ 4194304 := by simp; omega
            have HEQ := Lib.hid (fun (W : World) (hb : ∀ q, S q ∨ T q → W.heap[q]? = wr.heap[q]?) => same_any S T _ _ ((a.drop p).take old.length) old W (hsc.kept (fun q hq => ⟨hq, (hb q (Or.inl hq)).trans (hW.out.block q (HS.out q hq))⟩)) (R1.out.kept (fun q hq => ⟨hq, hb q (Or.inr hq)⟩)) hil hol)
            have SD := Lib.hid hsd
            have hcl : ((a.drop x).take (p - x)).length = p - x := by simp; omega
            have hol2 : o.length + ((a.drop x).take (p - x)).length + new.length ≤ 8388608 := by omega
            have HOL : Hid ((o ++ (a.drop x).take (p - x) ++ new).length + newsN (hs.drop (k + 1)) ≤ p + old.length + newsN hs) := Lib.hid (by simp only [List.length_append]; omega)
            have HE3 : Hid (o ++ (a.drop x).take (p - x) ++ new ++ outN a (p + old.length) (hs.drop (k + 1)) = out) := Lib.hid (by rw [← hE2]; simp)
            generalize (a.drop p).take old.length = cut at *
            generalize (a.drop x).take (p - x) = cut2 at *
            generalize hqq : decide (cut = old) = qq at *
            have HFQ := Lib.hid hF2
            have HST2 : Hid (∀ q, S q ∨ T q → q < wr.heap.size) := Lib.hid (fun q hq => by rcases hq with h | h; have := HS.out q h; omega; have := HT.out q h; omega)
            have hw1 : IntKind.i64.wrap ((p : Int) + (old.length : Int)) = (p : Int) + (old.length : Int) := IntWalk.i64_in _ (by omega)
            rw [show ((p + old.length : Nat) : Int) = (p : Int) + (old.length : Int) by push_cast; rfl] at hrc
            have hb1 : (p : Int) ≤ (p : Int) + (old.length : Int) := by omega
            clear hF2 hsc hsd hqq hE2 hN2 hcl
            have HC := Lib.hid (fun n => HEQ.out (wp.drewN n) (fun q hq => HK2.out q (HST2.out q hq)))
            clear HEQ
            go_wp2_with fail
            cases qq
            · have HQ : Hid (q = false) := Lib.hid (HFQ.out.symm)
              go_quiet ((go_at_call 20; exact Calls.quiet_of (HC.out _)))
              go_wp2_with fail
              go_ret2
              exact ⟨_, by rw [HQ.out]; rfl, by rw [HQ.out]; exact ownS_nil _ _, W2.out.trans (drewn _ _ _)⟩
            · have HQ : Hid (fitB a (p + old.length) (hs.drop (k + 1)) = q) := Lib.hid HFQ.out
              go_quiet ((go_at_call 20; exact Calls.quiet_of (HC.out _)))
              have W3 := Lib.hid (W2.out.trans (drewn w.heap.size wp nq))
              have HK3 : Hid (∀ q, q < wr.heap.size → (wp.drewN nq).heap[q]? = wr.heap[q]?) := HK2
              have HBX3 : Hid ((wp.drewN nq).heap[wr.heap.size]? = some (.cells #[.int .i64 (p : Int), .slice a1 old.length c1, .slice a2 new.length c2] 91 (0, 0))) := HBX
              have hlt3 : wr.heap.size < (wp.drewN nq).heap.size := hlt2
              clear b0 b1 b2 W2 HK2 HBX hlt2 hrc HC gd ge gf gd2 ge2
              generalize wp.drewN nq = wz at *
              obtain ⟨b0, b1, b2⟩ := box3 HBX3.out rfl
              have O2 : Hid (OwnS wz w.heap.size (.slice la o.length lc) o) := Lib.hid (own_below hO.out (fun q _ hq => HK3.out q hq))
              have SRC2 : Hid (Src Try.prog 1 24 (.slice a4 cut2.length c4) cut2.length (sv cut2) wz) := Lib.hid (SD.out.kept (S' := S) (fun q hq => ⟨hq, (HK3.out q (by have := HS.out q hq; omega)).trans (hW.out.block q (HS.out q hq))⟩)).src
              go_wp2_with (at_builtin; refine wpList_own_src _ rfl _ _ 24 24 rfl w.heap.size 9 i0 (.string ByteArray.empty) 1 16 Try.underlying24 hi hz0 hz1 hz2 rfl (by decide) _ _ _ rfl O2.out _ cut2.length (sv cut2) rfl SRC2.out (by unfold maxLen; omega) (by omega) (by omega) ?_)
              intro v5 w5 hown5 hg5
              have O5 : Hid (OwnS w5 w.heap.size v5 (o ++ cut2)) := Lib.hid (ownS_more rfl hown5)
              have hob : (Value.slice la o.length lc).ownBlock ≠ some wr.heap.size := fun e => by have := (World.ownsRow.lt hO.out _ e).2; omega
              have K5 : Hid (w5.heap[wr.heap.size]? = wz.heap[wr.heap.size]?) := Lib.hid (hg5.gb.block _ hlt3 (fun e => hob e.symm))
              have G5 : Hid (∀ q, q < w.heap.size → w5.heap[q]? = wz.heap[q]?) := Lib.hid (fun q hq => hg5.gb.block q (by omega) (fun e => by have := (World.ownsRow.lt O2.out _ e.symm).1; omega))
              have W5 : Hid (Below w.heap.size w w5) := Lib.hid (W3.out.grown hg5.gb W3.out.size (fun q hq => (World.ownsRow.lt O2.out q hq).1))
              have hs5 := hg5.size
              obtain ⟨l5a, l5c, rfl⟩ := ownS_slice O5.out
              have hob5 : Hid ((Value.slice l5a (o ++ cut2).length l5c).ownBlock ≠ some wr.heap.size) := Lib.hid (fun e => by
                rcases hg5.own _ e with e2 | e2
                · exact hob e2
                · omega)
              clear hown5 hg5 b0 b1 b2 hob
              obtain ⟨b0, b1, b2⟩ := box3 HBX3.out K5.out
              have SRC5 : Hid (Src Try.prog 1 24 (.slice a2 new.length c2) new.length (sv new) w5) := Lib.hid (R2.out.kept (S' := T) (fun q hq => ⟨hq, (G5.out q (HT.out q hq)).trans (HK3.out q (by have := HT.out q hq; omega))⟩)).src
              have hl5 : (o ++ cut2).length = o.length + cut2.length := List.length_append
              have hl5b : (o ++ cut2).length ≤ 8388608 := by omega
              have hl5c : (o ++ cut2).length + new.length ≤ 8388608 := by omega
              have HOA : Hid (o ++ cut2 ++ new ++ outN a (p + old.length) (hs.drop (k + 1)) = out) := HE3
              generalize o ++ cut2 = o2 at *
              clear hl5
              go_wp2_with (at_builtin; refine wpList_own_src _ rfl _ _ 24 24 rfl w.heap.size 9 i0 (.string ByteArray.empty) 1 16 Try.underlying24 hi hz0 hz1 hz2 rfl (by decide) _ _ _ rfl O5.out _ new.length (sv new) rfl SRC5.out (by unfold maxLen; omega) (by omega) (by omega) ?_)
              intro v6 w6 hown6 hg6
              have O6 : Hid (OwnS w6 w.heap.size v6 (o2 ++ new)) := Lib.hid (ownS_more rfl hown6)
              have K6 : Hid (w6.heap[wr.heap.size]? = wz.heap[wr.heap.size]?) := Lib.hid ((hg6.gb.block _ (by omega) (fun e => hob5.out e.symm)).trans K5.out)
              have W6 : Hid (Below w.heap.size w w6) := Lib.hid (W5.out.grown hg6.gb W5.out.size (fun q hq => (World.ownsRow.lt O5.out q hq).1))
              clear hown6 hg6 b0 b1 b2
              obtain ⟨b0, b1, b2⟩ := box3 HBX3.out K6.out
              go_wp2_with fail
              go_roundw
              case rel => exact ⟨k + 1, p + old.length, o2 ++ new, by omega, by go_num, by go_num, hpa, HOL, HQ, HOA, O6, W6⟩
              case measure => simp [intOf]; omega
    · have hE2 := hE.out
      have hF2 := hF.out
      rw [List.drop_eq_nil_of_le (show hs.length ≤ k by omega)] at hE2 hF2
      have hE3 : o ++ a.drop x = out := hE2
      have HQ : Hid (q = true) := Lib.hid hF2.symm
      have hN2 := hN.out
      rw [List.drop_eq_nil_of_le (show hs.length ≤ k by omega)] at hN2
      have hN3 : o.length + 0 ≤ x + newsN hs := hN2
      obtain ⟨a3, c3, hrc, hsc⟩ := HA.out.cutL hx
      have hdl : (a.drop x).length = a.length - x := by simp
      have hol : o.length + (a.drop x).length ≤ 8388608 := by omega
      have SRC2 : Hid (Src Try.prog 1 24 (.slice a3 (a.drop x).length c3) (a.drop x).length (sv (a.drop x)) wr) := Lib.hid (hsc.kept (S' := S) (fun q hq => ⟨hq, hW.out.block q (HS.out q hq)⟩)).src
      have HE3 := Lib.hid hE3
      generalize a.drop x = cut at *
      clear hE2 hF2 hE3 hN2 hN3 hsc hdl hE hN hF
      go_wp2_with (at_builtin; refine wpList_own_src _ rfl _ _ 24 24 rfl w.heap.size 9 i0 (.string ByteArray.empty) 1 16 Try.underlying24 hi hz0 hz1 hz2 rfl (by decide) _ _ _ rfl hO.out _ cut.length (sv cut) rfl SRC2.out (by unfold maxLen; omega) (by omega) (by omega) ?_)
      intro v5 w5 hown5 hg5
      have O5 : Hid (OwnS w5 w.heap.size v5 (o ++ cut)) := Lib.hid (ownS_more rfl hown5)
      have W5 : Hid (Below w.heap.size w w5) := Lib.hid (hW.out.grown hg5.gb hsz (fun q hq => (World.ownsRow.lt hO.out q hq).1))
      clear hown5 hg5
      go_wp2_with fail
      go_ret2
      exact ⟨_, by rw [HQ.out]; rfl, by rw [HQ.out]; show OwnS _ _ _ out; rw [← HE3.out]; exact O5.out, W5.out⟩
end Go.Proofs.Ytfiogjdjcocbnaa
