/- The walks of fit and Patch. -/
import Derived.Test.YtfiogjdjcocbnaaLinJ
namespace Go.Proofs.Ytfiogjdjcocbnaa
open Go.RowKit

section
variable {α : Type} [DecidableEq α]
/-- Do hunks fit, one behind the other, from a place on? -/
def fitB (a : List α) : Nat → List (HunkN α) → Bool
  | _, [] => true
  | done, h :: r => decide ((done : Int) ≤ h.place ∧ h.place ≤ a.length ∧ (h.old.length : Int) ≤ (a.length : Int) - h.place) && (decide ((a.drop h.place.toNat).take h.old.length = h.old) && fitB a (h.place.toNat + h.old.length) r)
theorem fit_iff (a : List α) : ∀ (hs : List (HunkN α)) (d : Nat), fitB a d hs = true ↔ Fits a d hs
  | [], _ => by simp [fitB, Fits]
  | h :: r, d => by
    have ih := fit_iff a r (h.place.toNat + h.old.length)
    unfold fitB Fits
    rw [Bool.and_eq_true, Bool.and_eq_true, ih, decide_eq_true_eq, decide_eq_true_eq]
    constructor
    · rintro ⟨⟨h1, h2, h3⟩, h4, h5⟩; exact ⟨h1, h2, h3, h4, h5⟩
    · rintro ⟨h1, h2, h3, h4, h5⟩; exact ⟨⟨h1, h2, h3⟩, h4, h5⟩
end
theorem hunk_at {S : Nat → Prop} {w : World} {a : Option Addr} {c : Nat} {hs : List (HunkN (List UInt8))} (h : HunksC S w (.slice a hs.length c) hs) (hn : 0 < hs.length) :
    ∃ g o, a = some ⟨g, o, none⟩ ∧ S g ∧ hs.length ≤ c ∧ c ≤ 9223372036854775807 ∧ ∀ k x, hs[k]? = some x → ∃ a1 c1 a2 c2, w.cell? ⟨g, o + k * 3, none⟩ = some (.int .i64 x.place) ∧ w.cell? ⟨g, o + k * 3 + 1, none⟩ = some (.slice a1 x.old.length c1) ∧ w.cell? ⟨g, o + k * 3 + 2, none⟩ = some (.slice a2 x.new.length c2) ∧
      StrsC S w (.slice a1 x.old.length c1) x.old ∧ StrsC S w (.slice a2 x.new.length c2) x.new := by
  obtain ⟨g, o, h1, h2, h3, h4, h5⟩ := RowsC.at h hn
  refine ⟨g, o, h1, h2, h3, h4, fun k x hx => ?_⟩
  obtain ⟨cs, _, ⟨v1, v2, rfl, r1, r2⟩, hc⟩ := h5 k x hx
  obtain ⟨a1, c1, rfl⟩ := r1.shape
  obtain ⟨a2, c2, rfl⟩ := r2.shape
  exact ⟨a1, c1, a2, c2, hc 0 _ rfl, hc 1 _ rfl, hc 2 _ rfl, r1, r2⟩
set_option maxRecDepth 100000 in
set_option maxHeartbeats 8000000 in
theorem fit_any (S T : Nat → Prop) (va vh : Value) (a : List (List UInt8)) (hs : List (HunkN (List UInt8))) (w : World) (hS : ∀ k, S k → k < w.heap.size) (hT : ∀ k, T k → k < w.heap.size) (ha : StrsC S w va a) (hh : HunksC T w vh hs) (hal : a.length ≤ 4194304) (hhl : hs.length ≤ 4194304) (hol : ∀ h ∈ hs, h.old.length ≤ 4194304) :
    Calls Try.prog 50 #[va, vh] w fun e w' => e = .returned (.bool (fitB a 0 hs)) ∧ Below w.heap.size w w' := by
  obtain ⟨aa, ac, rfl⟩ := ha.shape
  obtain ⟨ba, bc, rfl⟩ := hh.shape
  have HS := Lib.hid hS
  have HT := Lib.hid hT
  have HA := Lib.hid ha
  have HH := Lib.hid hh
  have HO := Lib.hid hol
  have HR := Lib.hid (Below.refl w.heap.size w)
  obtain ⟨q, hq⟩ : ∃ q, fitB a 0 hs = q := ⟨_, rfl⟩
  rw [hq]
  have Q := Lib.hid hq
  clear hS hT ha hh hol hq
  go_enter Try.func50, Try.ntmps50
  go_wp2_with fail
  go_loopw [5, 10] (fun d i wr => ∃ (k x : Nat), k ≤ hs.length ∧ i = .int .i64 k ∧ d = .int .i64 x ∧ x ≤ a.length ∧ Hid (fitB a x (hs.drop k) = q) ∧ Hid (Below w.heap.size w wr)) (fun _ i _ => hs.length - (intOf i).toNat)
  case atStart => exact ⟨0, 0, Nat.zero_le _, rfl, rfl, Nat.zero_le _, Q, HR⟩
  case round =>
    obtain ⟨k, x, hk, rfl, rfl, hx, hF, hW⟩ := hrel
    by_cases hlt : k < hs.length
    · obtain ⟨g, o, rfl, hTg, _, _, hcs⟩ := hunk_at (HH.out.kept hunk_keeps (S' := T) (w' := wr) (fun q hq => ⟨hq, hW.out.block q (HT.out q hq)⟩)) (by omega)
      obtain ⟨h, hh⟩ : ∃ h, hs[k]? = some h := ⟨_, List.getElem?_eq_getElem hlt⟩
      have hd : hs.drop k = h :: hs.drop (k + 1) := drop_one hh
      have hol := HO.out h (List.mem_of_getElem? hh)
      obtain ⟨a1, c1, a2, c2, e0, e1, e2, r1, _⟩ := hcs k h hh
      obtain ⟨pl, old, new⟩ := h
      simp only at e0 e1 e2 r1 hol
      have hF2 := hF.out
      rw [hd] at hF2
      unfold fitB at hF2
      simp only at hF2
      have hsz := hW.out.size
      have R1 := Lib.hid r1
      have W2 : Hid (Below w.heap.size w (wr.alloc (.cells #[.int .i64 pl, .slice a1 old.length c1, .slice a2 new.length c2] 58))) := Lib.hid (hW.out.alloc hsz _)
      clear hcs hh hd r1 hF
      by_cases h1 : pl < x
      · have HQ : Hid (q = false) := Lib.hid (by rw [← hF2, decide_eq_false (by omega)]; rfl)
        clear hF2
        go_wp2_with fail
        go_ret
        exact ⟨by rw [HQ.out]; rfl, W2.out⟩
      · by_cases h2 : (a.length : Int) < pl
        · have HQ : Hid (q = false) := Lib.hid (by rw [← hF2, decide_eq_false (by omega)]; rfl)
          clear hF2
          go_wp2_with fail
          go_ret
          exact ⟨by rw [HQ.out]; rfl, W2.out⟩
        · obtain ⟨p, rfl⟩ : ∃ p : Nat, pl = p := ⟨pl.toNat, by omega⟩
          by_cases h3 : (a.length : Int) - p < (old.length : Int)
          · have HQ : Hid (q = false) := Lib.hid (by rw [← hF2, decide_eq_false (by omega)]; rfl)
            clear hF2
            go_wp2_with fail
            go_ret
            exact ⟨by rw [HQ.out]; rfl, W2.out⟩
          · rw [decide_eq_true (by omega), Bool.true_and, Int.toNat_natCast] at hF2
            have hpo : p ≤ p + old.length := by omega
            have hpa : p + old.length ≤ a.length := by omega
            obtain ⟨a3, c3, hrc, hsc⟩ := HA.out.cut hpo hpa
            have e3 : p + old.length - p = old.length := by omega
            rw [e3] at hrc hsc
            have hil : ((a.drop p).take old.length).length ≤ 4194304 := by simp; omega
            have HEQ := Lib.hid (fun (W : World) (hb : ∀ q, S q ∨ T q → W.heap[q]? = wr.heap[q]?) => equal_any S T _ _ ((a.drop p).take old.length) old W (hsc.kept (fun q hq => ⟨hq, (hb q (Or.inl hq)).trans (hW.out.block q (HS.out q hq))⟩)) (R1.out.kept (fun q hq => ⟨hq, hb q (Or.inr hq)⟩)) hil hol)
            generalize (a.drop p).take old.length = cut at *
            generalize hqq : decide (cut = old) = qq at *
            have HFQ := Lib.hid hF2
            have HST2 : Hid (∀ q, S q ∨ T q → q < wr.heap.size) := Lib.hid (fun q hq => by rcases hq with h | h; have := HS.out q h; omega; have := HT.out q h; omega)
            clear hF2 hsc hqq
            have hcast : (p : Int) + (old.length : Int) = ((p + old.length : Nat) : Int) := by push_cast; rfl
            rw [show ((p + old.length : Nat) : Int) = (p : Int) + (old.length : Int) by push_cast; rfl] at hrc
            clear hcast
            go_wp2_with fail
            have HC := Lib.hid (fun n => HEQ.out ((wr.alloc (.cells #[.int .i64 (p : Int), .slice a1 old.length c1, .slice a2 new.length c2] 58)).drewN n) (fun q hq => Below.heap_alloc _ _ _ (HST2.out q hq)))
            clear HEQ
            cases qq
            · have HQ : Hid (q = false) := Lib.hid (HFQ.out.symm)
              go_quiet ((go_at_call 61; exact Calls.quiet_of (HC.out _)))
              go_wp2_with fail
              go_ret
              exact ⟨by rw [HQ.out]; rfl, W2.out.trans (drewn _ _ _)⟩
            · have HQ : Hid (fitB a (p + old.length) (hs.drop (k + 1)) = q) := Lib.hid HFQ.out
              go_quiet ((go_at_call 61; exact Calls.quiet_of (HC.out _)))
              go_wp2_with fail
              go_roundw
              case rel => exact ⟨k + 1, p + old.length, by omega, by go_num, by go_num, hpa, HQ, Lib.hid (W2.out.trans (drewn _ _ _))⟩
              case measure => simp [intOf]; omega
    · have HQ : Hid (q = true) := Lib.hid (by
        have := hF.out
        rw [List.drop_eq_nil_of_le (show hs.length ≤ k by omega)] at this
        exact this.symm)
      go_wp2_with fail
      go_ret
      exact ⟨by rw [HQ.out]; rfl, hW.out⟩
end Go.Proofs.Ytfiogjdjcocbnaa
