/- Match. -/
import Derived.Test.YthigepjddfdbmaaDoorGlobK
import Derived.Test.YthigepjddfdbmaaDoorPathI
namespace Go.Proofs.YthigepjddfdbmaaDoor
open Go.RowKit Go.Lib

theorem take_one {α : Type} {l : List α} {k : Nat} {d : α} (hk : k < l.length) : l.take (k + 1) = l.take k ++ [l.getD k d] := by
  rw [List.take_add_one]
  simp [List.getD, hk]
theorem getD_in {α : Type} {l : List α} {k : Nat} {d : α} (hk : k < l.length) : l.getD k d ∈ l := by
  simp [List.getD, hk]
set_option maxRecDepth 100000 in
set_option maxHeartbeats 4000000 in
theorem match_any (S : Nat → Prop) (pb : Nat) (ps : List PieceN) (s : Txt) (w : World) (hS : ∀ k, S k → k < w.heap.size) (h : PatAt S w pb ps) (hE : PEnv w) (hs : s.length ≤ 4194300) :
    Calls Tryd.prog 12 #[.pointer (some ⟨pb, 0, none⟩), .string ⟨s.toArray⟩] w (TruthP (Mt (itemsP ps) (namesL s)) w) := by
  have hl := h.2.2
  have H := Lib.hid (fun (W : World) (hb : Below w.heap.size w W) => h.kept (S' := S) (w' := W) (fun k hk => ⟨hk, hb.block k (hS k hk)⟩))
  have HS := Lib.hid hS
  have HST := Lib.hid (start_any S pb ps w hS h)
  have HE := Lib.hid hE
  have HNS := Lib.hid (namesL_short s)
  have hnl := namesL_len s
  clear h hE
  go_enter Tryd.func12, Tryd.ntmps12
  go_wp2_with fail
  refine HST.out.mono ?_
  rintro e w1 ⟨cb, f, rfl, hb1, hf1, hcb, hl1⟩
  have HB1 := Lib.hid hb1
  have HF1 := Lib.hid hf1
  have HL1 := Lib.hid hl1
  have HSP := Lib.hid (split_any s w1 (by omega) (HE.out.on hl1))
  clear hb1 hf1 hl1 HST
  go_wp2_with fail
  refine HSP.out.mono ?_
  rintro e w2 ⟨v, rfl, hv, hl2⟩
  generalize hN : namesL s = L at *
  obtain ⟨va, vc, rfl⟩ := hv.shape
  have HV := Lib.hid hv
  have HB2 : Hid (Bits w2 cb (ps.length + 1) f) := Lib.hid (HB1.out.kept (hl2.block cb HB1.out.lt) hl2.size)
  have HCB : Hid (cb < w1.heap.size) := Lib.hid HB1.out.lt
  have HL2 : Hid (Below w.heap.size w w2) := Lib.hid (HL1.out.trans (hl2.mono HL1.out.size))
  have HSZ : Hid (w1.heap.size ≤ w2.heap.size) := Lib.hid hl2.size
  have HGB : Hid (∀ W, w2.grownBy W (some cb) → Below w.heap.size w W) := Lib.hid (fun W hg => HL2.out.grown hg HL2.out.size (fun j hj => by injection hj with hj; omega))
  clear hl2 hv HB1 hN HSP
  go_wp2_with fail
  go_loopw [13] (fun i wr => ∃ (k : Nat) (g : Nat → Bool), k ≤ L.length ∧ i = .int .i64 k ∧ Hid (Bits wr cb (ps.length + 1) g) ∧ Hid (StandF ps (L.take k) g) ∧ Hid (w2.grownBy wr (some cb))) (fun i _ => L.length - (intOf i).toNat)
  case atStart => exact ⟨0, f, Nat.zero_le _, rfl, HB2, Lib.hid HF1.out, Lib.hid (World.grownBy.refl _ _)⟩
  case round =>
    obtain ⟨k, g, hk, rfl, hB, hSt, hG⟩ := hrel
    by_cases hlt : k < L.length
    · obtain ⟨⟨vb, vo, vf⟩, rfl, hvS, _, hxs⟩ := StrsC.at HV.out (by omega)
      have cx := (World.cell?_of_block (w := w2) (w' := wr) (a := (⟨vb, vo, vf⟩ : Addr).add k) (by rw [add_block]; exact hG.out.block vb hvS.2 (fun e => by injection e with e; have := HCB.out; have := hvS.1; simp at this; omega))).trans (hxs k hlt)
      have HTK : Hid (L.take (k + 1) = L.take k ++ [L.getD k []]) := Lib.hid (take_one hlt)
      have HXL : Hid ((L.getD k []).length ≤ 4194304) := Lib.hid (by have := HNS.out _ (getD_in (d := []) hlt); omega)
      have HSTP := Lib.hid (step_any S pb cb ps g (L.take k) (L.getD k []) wr (fun q hq => ⟨by have := HS.out q hq; have := (HGB.out _ hG.out).size; omega, fun e => by have := HS.out q hq; omega⟩) (H.out _ (HGB.out _ hG.out)) hB.out hSt.out HXL.out)
      clear hxs hvS
      generalize L.getD k [] = x at *
      go_wp2_with fail
      refine HSTP.out.mono ?_
      rintro e w5 ⟨rfl, g2, hb5, hs5, hg5⟩
      have HB5 := Lib.hid hb5
      have HS5 : Hid (StandF ps (L.take (k + 1)) g2) := Lib.hid (by rw [HTK.out]; exact hs5)
      have HG5 := Lib.hid (gb_trans hG.out hg5)
      clear hb5 hs5 hg5 HSTP
      go_wp2_with fail
      go_roundw
      case rel => exact ⟨k + 1, g2, by omega, by go_num, HB5, HS5, HG5⟩
      case measure => simp [intOf]; omega
    · have HTL : Hid (L.take k = L) := Lib.hid (List.take_of_length_le (by omega))
      have HEN := Lib.hid (end_any cb ps.length g wr hl hB.out)
      have HLW := Lib.hid (HGB.out _ hG.out)
      have HSF : Hid (g ps.length = true ↔ Mt (itemsP ps) L) := Lib.hid (by
        have := hSt.out ps.length (Nat.le_refl _)
        rw [this, HTL.out, ← itemsP_len ps]; exact stand_end)
      clear hB hSt hG
      go_wp2_with fail
      refine HEN.out.mono ?_
      rintro e w5 ⟨rfl, hb5⟩
      have HB5 : Hid (Below w.heap.size w w5) := Lib.hid (HLW.out.trans (hb5.mono HLW.out.size))
      clear hb5 HEN
      go_wp2_with fail
      go_ret
      exact ⟨_, rfl, HSF.out, HB5.out⟩
end Go.Proofs.YthigepjddfdbmaaDoor
