/- The walk of the reference's Scan. -/
import Derived.Test.YtgknihcpmpfocaaDoorPkI
import Derived.Test.YtgknihcpmpfocaaDoorPkJ
import Derived.Test.YtgknihcpmpfocaaDoorPkF
import Derived.Test.YtgknihcpmpfocaaDoorShaG
import Derived.Deep.DeepCutAuto
namespace Go.Proofs.YtgknihcpmpfocaaDoor
open Go.RowKit Go.Lib
attribute [local simp high] id_size id_zero

theorem str_cut (w : World) (x : List UInt8) (f k : Nat) (h1 : f ≤ k) (h2 : k ≤ x.length) : (Instr.slice 9 (.string ⟨x.toArray⟩) (some (.int .i64 (f : Int))) (some (.int .i64 (k : Int))) none).run Tryd.prog w = .ok (.string ⟨((x.drop f).take (k - f)).toArray⟩) w := by
  rw [run_slice_string _ _ _ _ _ _ _ (by kernel_rfl) (by omega) (by omega) (by rw [at_size]; omega)]
  congr 2
  have e1 : (f : Int).toNat = f := by omega
  have e2 : (k : Int).toNat = k := by omega
  rw [e1, e2, extract_list]
theorem str_head (w : World) (x : List UInt8) (h2 : 12 ≤ x.length) : (Instr.slice 9 (.string ⟨x.toArray⟩) none (some (.int .i64 12)) none).run Tryd.prog w = .ok (.string ⟨(x.take 12).toArray⟩) w := by
  rw [run_slice_string_h w _ _ (by kernel_rfl) _ _ (by omega) (by rw [at_size]; omega)]
  congr 2
  show (⟨x.toArray⟩ : ByteArray).extract 0 12 = _
  rw [extract_list, List.drop_zero]
theorem partG_lt {b : List UInt8} {e : Nat} : ∀ k, e + k ≤ b.length → partG b e k < 256 ^ k
  | 0, _ => by rw [partG_zero]; decide
  | k + 1, h => by
    have ih := partG_lt (b := b) (e := e) k (by omega)
    rw [partG_succ (by omega), Nat.pow_succ]
    have := (b[e + k]'(by omega)).toNat_lt
    omega
def RScanP (w : World) (s : List UInt8) (e : Ending) (w' : World) : Prop := ∃ v, e = .returned (.tuple #[v, .int .i64 (endL s : Int)]) ∧ OwnS w' w.heap.size v (scanL s) ∧ Below w.heap.size w w'
set_option maxRecDepth 100000 in
set_option maxHeartbeats 4000000 in
theorem rscan_any (s : List UInt8) (w : World) (hs : s.length ≤ 1000000) : Calls Tryd.prog 8 #[.string ⟨s.toArray⟩] w (RScanP w s) := by
  obtain ⟨i0, hi0, hz0, hz1, hz2⟩ := info_parts Tryd.info9s
  obtain ⟨n, hn⟩ : ∃ n, n = s.length := ⟨_, rfl⟩
  have hsz0 : (⟨s.toArray⟩ : ByteArray).size = n := by rw [hn]; rfl
  have HN := Lib.hid hn
  have HL : Hid (n ≤ 1000000) := Lib.hid (by omega)
  have HB := Lib.hid (Below.refl w.heap.size w)
  clear hn hs
  go_enter Tryd.func8, Tryd.ntmps8
  go_wp2_with fail
  go_loopw [4, 5] (fun o at_ wr => ∃ (done todo : List (List UInt8)), scanL s = done ++ todo ∧ at_ = .int .i64 ((framesL done).length : Int) ∧ OwnS wr w.heap.size o done ∧ Below w.heap.size w wr) (fun _ at_ _ => n - (intOf at_).toNat)
  case atStart => exact ⟨[], scanL s, rfl, rfl, ownS_nil _ _, HB.out⟩
  case round =>
    obtain ⟨done, todo, hdt, rfl, ho, hb⟩ := hrel
    obtain ⟨e, he⟩ : ∃ e, e = (framesL done).length := ⟨_, rfl⟩
    rw [← he]
    have hse := scan_rest hdt
    rw [← he] at hse
    have hdl := framesL_ge done
    rw [← he] at hdl
    have HEQ := Lib.hid he
    have HDT := Lib.hid hdt
    have HSE := Lib.hid hse
    have HDL := Lib.hid hdl
    have O := Lib.hid ho
    have B := Lib.hid hb
    have hszr := hb.size
    obtain ⟨oa, oc, rfl⟩ := ownS_slice ho
    have hen : e ≤ n := by have := HN.out; omega
    have HEN := Lib.hid hen
    have hw1 : IntKind.i64.wrap ((e : Int) + 12) = (e : Int) + 12 := by have := HL.out; exact IntWalk.i64_in _ (by omega)
    clear hdt ho hb hse he hdl hen
    by_cases h12 : e + 12 ≤ n
    · have ht : decide ((e : Int) + 12 ≤ (n : Int)) = true := decide_eq_true (by omega)
      have H12 := Lib.hid h12
      clear h12
      go_wp2_with fail
      go_loopw [6, 7] (fun q i wq => ∃ k : Nat, k ≤ 4 ∧ i = .int .i64 (k : Int) ∧ q = .int .i64 ((partG s e k : Nat) : Int) ∧ wq = wr) (fun _ i _ => 4 - (intOf i).toNat)
      case atStart => exact ⟨0, by omega, rfl, by rw [partG_zero]; rfl, rfl⟩
      case round =>
        obtain ⟨k, hk, rfl, rfl, rfl⟩ := hrel
        by_cases hlt : k < 4
        · have hd : decide ((k : Int) < 4) = true := decide_eq_true (by omega)
          have hix : e + k < s.length := by have := HN.out; have := H12.out; omega
          have hw2 : IntKind.i64.wrap ((e : Int) + (k : Int)) = (e : Int) + (k : Int) := by have := HL.out; have := HEN.out; exact IntWalk.i64_in _ (by omega)
          have hI : ∀ W, (Instr.index 9 (.string ⟨s.toArray⟩) (.int .i64 ((e : Int) + (k : Int)))).run Tryd.prog W = .ok (.int .u8 ((s.getD (e + k) 0).toNat : Nat)) W := fun W => by
            have h := indexS W s (e + k) hix
            rw [show ((e + k : Nat) : Int) = (e : Int) + (k : Int) by omega] at h
            exact h
          have HSU := Lib.hid (partG_succ (b := s) (e := e) (k := k) hix)
          have hcd : s.getD (e + k) 0 = s[e + k] := by simp [List.getD, List.getElem?_eq_getElem hix]
          rw [← hcd] at HSU
          have hpl := partG_lt (b := s) (e := e) k (by omega)
          have hpl2 : partG s e k < 4294967296 := Nat.lt_of_lt_of_le hpl (by
            have : 256 ^ k ≤ 256 ^ 4 := Nat.pow_le_pow_right (by omega) (by omega)
            exact Nat.le_trans this (by decide))
          have hcl := (s.getD (e + k) 0).toNat_lt
          generalize (s.getD (e + k) 0).toNat = c at *
          obtain ⟨q, hq⟩ : ∃ q, partG s e k = q := ⟨_, rfl⟩
          rw [hq] at hpl2 HSU ⊢
          have hw3 : IntKind.i64.wrap ((q : Int) * 256) = (q : Int) * 256 := IntWalk.i64_in _ (by omega)
          have hw4 : IntKind.i64.wrap ((q : Int) * 256 + (c : Int)) = (q : Int) * 256 + (c : Int) := IntWalk.i64_in _ (by omega)
          have hwc : IntKind.i64.wrap (c : Int) = (c : Int) := IntWalk.i64_in _ (by omega)
          clear hix hcd hpl hq hpl2 hcl
          go_wp2_with fail
          go_roundw
          case rel =>
            refine ⟨k + 1, by omega, by go_num, ?_, trivial⟩
            have h := HSU.out
            rw [h]
            go_num
          case measure => simp only [intOf]; omega
        · have hd : decide ((k : Int) < 4) = false := decide_eq_false (by omega)
          obtain rfl : k = 4 := by omega
          rw [partG_four]
          obtain ⟨N, hN⟩ : ∃ N, num4 (s.drop e) = N := ⟨_, rfl⟩
          have HNN := Lib.hid hN
          have hNl : N < 4294967296 := by rw [← hN]; exact num4_lt _
          rw [hN]
          have hdl : (s.drop e).length = n - e := by rw [List.length_drop, HN.out]
          have HDLN := Lib.hid hdl
          have hw5 : IntKind.i64.wrap ((e : Int) + 12 + (N : Int)) = (e : Int) + 12 + (N : Int) := by have := HL.out; have := HEN.out; exact IntWalk.i64_in _ (by omega)
          have HEND : Hid (firstN (s.drop e) = none → scanL s = done ∧ endL s = e) := Lib.hid (fun h => by
            have h1 := HSE.out.1
            rw [scanL_none h] at h1
            have h2 : scanL s = done := by rw [HDT.out, ← h1, List.append_nil]
            exact ⟨h2, by unfold endL; rw [h2, ← HEQ.out]⟩)
          clear hN hdl hd
          by_cases hbig : 524288 < N
          · have g1 : decide ((N : Int) > 524288) = true := decide_eq_true (by omega)
            have HNO := Lib.hid (HEND.out (first_great (by have := HDLN.out; have := H12.out; omega) (Or.inl (by rw [HNN.out]; exact hbig))))
            clear hbig
            go_wp2_with fail
            go_ret2
            exact ⟨_, by rw [HNO.out.2]; rfl, by rw [HNO.out.1]; exact O.out, B.out⟩
          · have g1 : decide ((N : Int) > 524288) = false := decide_eq_false (by omega)
            by_cases hpast : n < e + 12 + N
            · have g2 : decide ((e : Int) + 12 + (N : Int) > (n : Int)) = true := decide_eq_true (by omega)
              have HNO := Lib.hid (HEND.out (first_great (by have := HDLN.out; have := H12.out; omega) (Or.inr (by rw [HNN.out, HDLN.out]; omega))))
              clear hbig hpast
              go_wp2_with fail
              go_ret2
              exact ⟨_, by rw [HNO.out.2]; rfl, by rw [HNO.out.1]; exact O.out, B.out⟩
            · have g2 : decide ((e : Int) + 12 + (N : Int) > (n : Int)) = false := decide_eq_false (by omega)
              obtain ⟨r, hr⟩ : ∃ r, ((s.drop e).drop 12).take N = r := ⟨_, rfl⟩
              have hrl : r.length = N := by rw [← hr, List.length_take, List.length_drop, HDLN.out]; omega
              have hcu1 : ∀ W, (Instr.slice 9 (.string ⟨s.toArray⟩) (some (.int .i64 ((e : Int) + 12))) (some (.int .i64 ((e : Int) + 12 + (N : Int)))) none).run Tryd.prog W = .ok (.string ⟨r.toArray⟩) W := fun W => by
                have h := str_cut W s (e + 12) (e + 12 + N) (by omega) (by have := HN.out; omega)
                rw [show e + 12 + N - (e + 12) = N by omega, ← List.drop_drop, hr] at h
                rw [← h]
                congr 6 <;> omega
              obtain ⟨hd2, hhd2⟩ : ∃ hd2, (s.drop e).take 12 = hd2 := ⟨_, rfl⟩
              have hcu2 : ∀ W, (Instr.slice 9 (.string ⟨s.toArray⟩) (some (.int .i64 (e : Int))) (some (.int .i64 ((e : Int) + 12))) none).run Tryd.prog W = .ok (.string ⟨hd2.toArray⟩) W := fun W => by
                have h := str_cut W s e (e + 12) (by omega) (by have := HN.out; omega)
                rw [show e + 12 - e = 12 by omega, hhd2] at h
                rw [← h]
                congr 6 <;> omega
              obtain ⟨fr, hfr⟩ : ∃ fr, frameL r = fr := ⟨_, rfl⟩
              have hcu3 : ∀ W, (Instr.slice 9 (.string ⟨fr.toArray⟩) none (some (.int .i64 12)) none).run Tryd.prog W = .ok (.string ⟨(fr.take 12).toArray⟩) W := fun W => str_head W fr (by rw [← hfr, frameL_len]; omega)
              obtain ⟨hd1, hhd1⟩ : ∃ hd1, fr.take 12 = hd1 := ⟨_, rfl⟩
              rw [hhd1] at hcu3
              have HFI : Hid (firstN (s.drop e) = if hd1 = hd2 then some N else none) := Lib.hid (by
                have h := first_ref (b := s.drop e) (by have := HDLN.out; have := H12.out; omega) (by rw [HNN.out]; omega) (by rw [HNN.out, HDLN.out]; omega)
                rw [HNN.out, hr, hfr, hhd1, hhd2] at h
                exact h)
              have HRC := Lib.hid hr
              have HRL := Lib.hid hrl
              have HGE : Hid (N ≤ 524288 ∧ e + 12 + N ≤ n) := Lib.hid ⟨by omega, by omega⟩
              obtain ⟨tb, htb⟩ : ∃ tb, (hd1 == hd2) = tb := ⟨_, rfl⟩
              have HTB := Lib.hid htb
              have HFRM := Lib.hid hfr
              clear hbig hpast hr hrl hhd1 hhd2 hfr
              go_upto_region 11 with fail
              go_cut [54] (fun s54 wx => s54 = .bool (!tb) ∧ Hid (Below wr.heap.size wr wx))
              case first =>
                have HFD : Hid (Calls Tryd.prog 29 #[.string ⟨r.toArray⟩] wr.drew fun e w' => e = .returned (.string ⟨fr.toArray⟩) ∧ Below wr.heap.size wr w') := Lib.hid (by
                  have h := rframe_any r wr.drew (by rw [HRL.out]; have := HGE.out.1; omega) (fun W => rsum_any r W (by rw [HRL.out]; have := HGE.out.1; omega))
                  rw [HFRM.out] at h
                  refine h.mono ?_
                  rintro e w' ⟨h1, h2⟩
                  exact ⟨h1, (show Below wr.heap.size wr wr.drew from ⟨rfl, rfl, rfl, Nat.le_refl _, fun _ _ => rfl⟩).trans h2⟩)
                go_region_with (go_at_call 29; refine HFD.out.mono ?_; rintro e w5 ⟨rfl, hb5⟩; have B5 := Lib.hid hb5; clear hb5)
                all_goals
                  go_wp2_with fail
                  go_meet
                  exact ⟨rfl, B5⟩
              case rest =>
                obtain ⟨rfl, B5⟩ := hcut
                cases tb with
                | false =>
                  have HNO := Lib.hid (HEND.out (by rw [HFI.out, if_neg (fun e => by have := HTB.out; rw [e] at this; simp at this)]))
                  go_wp2_with fail
                  go_ret2
                  exact ⟨_, by rw [HNO.out.2]; rfl, by rw [HNO.out.1]; exact row_kept O.out (fun k hk => B5.out.block k (World.ownsRow.lt O.out k hk).2), B.out.trans (B5.out.mono hszr)⟩
                | true =>
                  have hfo : firstN (s.drop e) = some N := by rw [HFI.out, if_pos (beq_iff_eq.1 HTB.out)]
                  have O5 := Lib.hid (row_kept O.out (fun k hk => B5.out.block k (World.ownsRow.lt O.out k hk).2))
                  have BC := Lib.hid (B.out.trans (B5.out.mono hszr))
                  have hzc := B5.out.size
                  obtain ⟨todo', htd⟩ : ∃ todo', todo = r :: todo' := ⟨_, by rw [← HSE.out.1, scanL_some hfo, HRC.out]⟩
                  have HTD := Lib.hid htd
                  have hdlb : done.length ≤ 1000000 := by have := HDL.out; have := HEN.out; have := HL.out; omega
                  have hw6 : IntKind.i64.wrap ((12 : Int) + (N : Int)) = (12 : Int) + (N : Int) := IntWalk.i64_in _ (by omega)
                  have hw7 : IntKind.i64.wrap ((e : Int) + ((12 : Int) + (N : Int))) = (e : Int) + ((12 : Int) + (N : Int)) := by have := HL.out; have := HGE.out.2; exact IntWalk.i64_in _ (by omega)
                  clear hfo htd
                  go_wp2_with (at_builtin; refine wpList_own_src _ rfl _ _ 27 27 rfl w.heap.size 9 i0 (.string ByteArray.empty) 1 16 Tryd.underlying27 hi0 hz0 hz1 hz2 rfl (by decide) _ _ _ rfl (World.ownsRow.alloc O5.out _) _ 1 [.string ⟨r.toArray⟩] rfl (srcS_one _ _) ?c13 ?c14 ?c15 ?_)
                  case c13 => unfold maxLen; omega
                  case c14 => omega
                  case c15 => simp; omega
                  intro v4 w4 hown4 hg4
                  have HO4 := Lib.hid (ownS_push hown4)
                  have HB4 := Lib.hid ((BC.out.alloc (by omega) _).grown hg4.gb (by simp; omega) (fun j hj => (World.ownsRow.lt O5.out j hj).1))
                  clear hown4 hg4
                  go_wp2_with fail
                  go_roundw
                  case rel =>
                    refine ⟨done ++ [r], todo', by rw [HDT.out, HTD.out, List.append_assoc]; rfl, ?_, HO4.out, HB4.out⟩
                    have hfl : (framesL (done ++ [r])).length = e + 12 + N := by
                      rw [framesL_append, List.length_append, ← HEQ.out]
                      have e1 : framesL [r] = frameL r := by unfold framesL; simp
                      rw [e1, frameL_len, HRL.out]; omega
                    rw [hfl]
                    go_num
                  case measure => have := HGE.out.2; simp only [intOf]; omega
    · have ht : decide ((e : Int) + 12 ≤ (n : Int)) = false := decide_eq_false (by omega)
      have HEND : Hid (scanL s = done ∧ endL s = e) := Lib.hid (by
        have h1 := HSE.out.1
        rw [scanL_none (first_short' (by rw [List.length_drop, ← HN.out]; omega))] at h1
        have h2 : scanL s = done := by rw [HDT.out, ← h1, List.append_nil]
        exact ⟨h2, by unfold endL; rw [h2, ← HEQ.out]⟩)
      clear h12
      go_wp2_with fail
      go_ret2
      exact ⟨_, by rw [HEND.out.2]; rfl, by rw [HEND.out.1]; exact O.out, B.out⟩
end Go.Proofs.YtgknihcpmpfocaaDoor
