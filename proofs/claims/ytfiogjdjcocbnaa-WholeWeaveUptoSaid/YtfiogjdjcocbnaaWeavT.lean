/- The law of texts. -/
import Derived.Test.YtfiogjdjcocbnaaWeavK
import Derived.Test.YtfiogjdjcocbnaaWeavL
import Derived.Test.YtfiogjdjcocbnaaWeavS
import Derived.Test.YtfiogjdjcocbnaaPartOpen
namespace Go.Proofs.Ytfiogjdjcocbnaa
open Go.RowKit

theorem text_len (head foot : List UInt8) : ∀ ps : List (PartN (List UInt8)), (textN head foot ps).length ≤ partsN ps
  | [] => Nat.le_refl _
  | p :: r => by
    have h := text_len head foot r
    rw [text_cons, partsN_cons, List.length_append]
    have h1 : (text1 head foot p).length ≤ p.base.length + p.ours.length + p.theirs.length + 4 := by
      unfold text1
      split
      · omega
      · split
        · omega
        · simp [closedN_len]; omega
    omega
theorem sumP_texts {ps : List (PartN (List UInt8))} (h : sumP ps ≤ 1048576) : ∀ p ∈ ps, (∀ x ∈ p.base, x.length ≤ 4194304) ∧ (∀ x ∈ p.ours, x.length ≤ 4194304) ∧ (∀ x ∈ p.theirs, x.length ≤ 4194304) := fun p hp => by
  obtain ⟨h1, h2, h3⟩ := sumP_mem ps p hp
  exact ⟨fun x hx => by have := sumL_mem _ x hx; omega, fun x hx => by have := sumL_mem _ x hx; omega, fun x hx => by have := sumL_mem _ x hx; omega⟩
set_option maxRecDepth 100000 in
set_option maxHeartbeats 8000000 in
theorem wtexts_law (S : Nat → Prop) (vp : Value) (ps : List (PartN (List UInt8))) (so st : List UInt8) (w : World) (hS : ∀ k, S k → k < w.heap.size) (hp : PartsC S w vp ps) (hsp : sumP ps ≤ 1048576) (hso : so.length ≤ 1048576) (hst : st.length ≤ 1048576) :
    Calls Try.prog 10 #[vp, .string ⟨so.toArray⟩, .string ⟨st.toArray⟩] w (TrueP w) := by
  unfold TrueP
  have hpl := sumP_len ps
  have hpn := sumP_parts ps
  have hpl2 : ps.length ≤ 1048576 := by omega
  have HX := Lib.hid (sumP_texts hsp)
  have htl := text_len (headN so) (footN st) ps
  obtain ⟨pa, pc, rfl⟩ := hp.shape
  have HS := Lib.hid hS
  have HP := Lib.hid (fun (W : World) (hb : Below w.heap.size w W) => hp.kept part_keeps (S' := S) (w' := W) (fun k hk => ⟨hk, hb.block k (hS k hk)⟩))
  have HT := Lib.hid (fun (W : World) (hb : Below w.heap.size w W) => text_any S (.slice pa ps.length pc) ps so st W (fun k hk => Nat.lt_of_lt_of_le (hS k hk) hb.size) (HP.out W hb) (by omega) HX.out (by omega) (by omega) (by omega))
  have HR := Lib.hid (fun (T2 : Nat → Prop) v2 (W : World) h1 h2 => rtext_any T2 v2 ps so st W h1 h2 (by omega) HX.out (by omega) (by omega) (by omega))
  have hOl : (textN (headN so) (footN st) ps).length ≤ 4194304 := by omega
  generalize textN (headN so) (footN st) ps = O at *
  generalize calmN ps = cm at *
  clear hS hp hsp hpn htl hpl
  go_enter Try.func10, Try.ntmps10
  go_wp2_with fail
  refine (awake8_any _).mono ?_
  rintro e w1 ⟨rfl, hb1⟩
  have B1 := Lib.hid hb1
  have hs1 := hb1.size
  clear hb1
  go_wp2_with fail
  refine (HT.out w1 B1.out).mono ?_
  rintro e w2 ⟨v2, rfl, ho2, hb2⟩
  have B2 := Lib.hid (B1.out.trans (hb2.mono hs1))
  have O2 := Lib.hid (ownS_c ho2)
  obtain ⟨a2, c2, rfl⟩ := ownS_slice ho2
  have hs2 := B2.out.size
  clear ho2 hb2 HT
  go_wp2_with fail
  refine (wplain_any S _ ps w2 (fun k hk => by have := HS.out k hk; omega) (HP.out w2 B2.out) (by omega)).mono ?_
  rintro e w3 ⟨v3, rfl, hh3, hb3⟩
  have B3 := Lib.hid (B2.out.trans (hb3.mono hs2))
  have H3 := Lib.hid hh3
  have O3 := Lib.hid (O2.out.kept (S' := fun k => k < w2.heap.size) (w' := w3) (fun k hk => ⟨hk.2, hb3.block k hk.2⟩))
  obtain ⟨a3, c3, rfl⟩ := hh3.shape
  have hs3 := B3.out.size
  have hs23 := hb3.size
  clear hh3 hb3 O2
  go_wp2_with fail
  refine (HR.out _ _ w3 (fun _ hk => hk) H3.out).mono ?_
  rintro e w4 ⟨v4, rfl, ho4, hb4⟩
  have B4 := Lib.hid (B3.out.trans (hb4.mono hs3))
  have O4 := Lib.hid (O3.out.kept (S' := fun k => k < w2.heap.size) (w' := w4) (fun k hk => ⟨hk, hb4.block k (by omega)⟩))
  have P4 := Lib.hid (ownS_c ho4)
  obtain ⟨a4, c4, rfl⟩ := ownS_slice ho4
  clear ho4 hb4 O3 HR
  go_wp2_with fail
  refine (same_yes _ _ _ _ O O w4 O4.out P4.out (by omega) (by omega) rfl).mono ?_
  rintro e w5 ⟨rfl, n5, rfl⟩
  go_wp2_with fail
  go_ret
  exact ⟨by simp, B4.out.trans (drewn _ w4 n5)⟩
end Go.Proofs.Ytfiogjdjcocbnaa
