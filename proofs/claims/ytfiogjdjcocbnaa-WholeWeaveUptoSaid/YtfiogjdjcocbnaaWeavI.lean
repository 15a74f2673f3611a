/- The walks of the reference's closed and Text. -/
import Derived.Test.YtfiogjdjcocbnaaWeavH
import Derived.Test.YtfiogjdjcocbnaaLinE
namespace Go.Proofs.Ytfiogjdjcocbnaa
open Go.RowKit

set_option maxRecDepth 100000 in
set_option maxHeartbeats 4000000 in
theorem rclosed_any (T : Nat → Prop) (vm : Value) (l : List (List UInt8)) (w : World) (hT : ∀ k, T k → k < w.heap.size) (hm : StrsC T w vm l) (hl : l.length ≤ 33554432) (hlx : ∀ x ∈ l, x.length ≤ 4194304) :
    Calls Try.prog 56 #[vm] w fun e w' => ∃ v, e = .returned v ∧ OwnS w' w.heap.size v (closedN l) ∧ Below w.heap.size w w' := by
  obtain ⟨i0, hi, hz0, hz1, hz2⟩ := info_parts Try.info9s
  obtain ⟨ma, mc, rfl⟩ := hm.shape
  have HE0 := Lib.hid (ownS_empty w)
  have SRC1 : Hid (Src Try.prog 1 24 (.slice ma l.length mc) l.length (sv l) (w.alloc (.cells #[] 9))) := Lib.hid (hm.kept (S' := T) (fun k hk => ⟨hk, Below.heap_alloc _ _ k (hT k hk)⟩)).src
  have HB0 := Lib.hid (Below.refl w.heap.size w)
  clear hT hm
  by_cases hne : l = []
  · subst hne
    go_enter Try.func56, Try.ntmps56
    go_wp2_with (at_builtin; refine wpList_own_src _ rfl _ _ 24 24 rfl w.heap.size 9 i0 (.string ByteArray.empty) 1 16 Try.underlying24 hi hz0 hz1 hz2 rfl (by decide) _ _ _ rfl HE0.out _ 0 [] rfl SRC1.out (by unfold maxLen; omega) (by omega) (by simp) ?_)
    intro v2 w2 hown2 hg2
    have O2 : Hid (OwnS w2 w.heap.size v2 []) := Lib.hid hown2
    have B2 : Hid (Below w.heap.size w w2) := Lib.hid ((HB0.out.alloc (Nat.le_refl _) _).grown hg2.gb (by simp) (fun q hq => (World.ownsRow.lt HE0.out q hq).1))
    obtain ⟨a2, c2, rfl⟩ := ownS_slice O2.out
    clear hown2 hg2
    go_wp2_with fail
    go_quiet (fail)
    go_wp2_with fail
    go_ret
    exact ⟨_, rfl, own_below O2.out (fun _ _ _ => rfl), B2.out.trans (drewn _ _ _)⟩
  · obtain ⟨p, x, rfl⟩ : ∃ p x, l = p ++ [x] := ⟨l.dropLast, l.getLast hne, (List.dropLast_concat_getLast hne).symm⟩
    have hxl := hlx x (by simp)
    have HCL := Lib.hid (closedN_snoc p x)
    have hpl : (p ++ [x]).length = p.length + 1 := by simp
    obtain ⟨M, hM⟩ : ∃ M, p ++ [x] = M := ⟨_, rfl⟩
    rw [hM] at SRC1 hl hpl HCL ⊢
    obtain ⟨ml, hml⟩ : ∃ ml, M.length = ml := ⟨_, rfl⟩
    have HM := Lib.hid hM
    have hpl2 : p.length + 1 = ml := by omega
    rw [hml] at SRC1 hl ⊢
    have hpl33 : p.length ≤ 33554432 := by omega
    have HML := Lib.hid hml
    clear hne hlx hM hpl hml
    go_enter Try.func56, Try.ntmps56
    go_upto_region 2 with (at_builtin; refine wpList_own_src _ rfl _ _ 24 24 rfl w.heap.size 9 i0 (.string ByteArray.empty) 1 16 Try.underlying24 hi hz0 hz1 hz2 rfl (by decide) _ _ _ rfl HE0.out _ ml (sv M) rfl SRC1.out (by unfold maxLen; simp; omega) (by simp; omega) (by simp) ?_; intro v2 w2 hown2 hg2)
    have O2 : OwnS w2 w.heap.size v2 (p ++ [x]) := by
      have h := ownS_more (l := []) (r := M) (by rw [HML.out]) hown2
      rw [HM.out]; exact h
    have B2 : Hid (Below w.heap.size w w2) := Lib.hid ((HB0.out.alloc (Nat.le_refl _) _).grown hg2.gb (by simp) (fun q hq => (World.ownsRow.lt HE0.out q hq).1))
    obtain ⟨a2, c2, rfl⟩ := ownS_slice O2
    have hlen : (p ++ [x]).length = p.length + 1 := by simp
    rw [hlen] at O2 ⊢
    obtain ⟨g, rfl, hBg, hgl, hcell, hfr, hset⟩ := ownS_last O2
    have HO2 := Lib.hid O2
    clear hown2 hg2 hlen O2 hset HE0 SRC1 hpl2
    obtain ⟨pn, hpn⟩ : ∃ pn, p.length = pn := ⟨_, rfl⟩
    have HPN := Lib.hid hpn
    rw [hpn] at hcell hfr HO2 hpl33 ⊢
    clear hpn
    have hwp : IntKind.i64.wrap ((pn : Int) + 1 - 1) = (pn : Int) := by rw [IntWalk.i64_in _ (by omega)]; omega
    have FIN : Hid (∀ (n : Nat) (y : List UInt8), OwnS ((w2.drewN n).setCell ⟨g, pn, none⟩ (.string ⟨y.toArray⟩)) w.heap.size (.slice (some ⟨g, 0, none⟩) (pn + 1) c2) (p ++ [y])) := Lib.hid (fun n y => by
      have h : OwnS (w2.drewN n) w.heap.size (.slice (some ⟨g, 0, none⟩) (p.length + 1) c2) (p ++ [x]) := by rw [HPN.out]; exact own_below HO2.out (fun _ _ _ => rfl)
      obtain ⟨g', e, _, _, _, _, hs⟩ := ownS_last h
      injection e with e; injection e with e; subst e
      have := hs y
      rw [HPN.out] at this; exact this)
    have FINB : Hid (∀ (n : Nat) (y : Value), Below w.heap.size w ((w2.drewN n).setCell ⟨g, pn, none⟩ y)) := Lib.hid (fun n y => (B2.out.trans (drewn _ w2 n)).setCell hBg y)
    by_cases hx0 : x = []
    · have HC : Hid (closedN M = p ++ [[10]]) := Lib.hid (by rw [HCL.out, hx0]; rfl)
      subst hx0
      clear HO2 HCL HPN HM HML B2
      go_wp2_with fail
      go_quiet (fail)
      have hc' : (w2.drewN nq).cell? ⟨g, pn, none⟩ = some (.string ⟨([] : List UInt8).toArray⟩) := hcell
      have hf' : (w2.drewN nq).frozen? ⟨g, pn, none⟩ = false := hfr
      clear hcell hfr
      go_wp2_with fail
      go_ret
      refine ⟨_, rfl, ?_, FINB.out _ _⟩
      rw [HC.out]
      exact FIN.out nq [10]
    · obtain ⟨y, c, rfl⟩ : ∃ y c, x = y ++ [c] := ⟨x.dropLast, x.getLast hx0, (List.dropLast_concat_getLast hx0).symm⟩
      have hlast : (y ++ [c]).getLast? = some c := by simp
      have hyl : (y ++ [c]).length = y.length + 1 := by simp
      obtain ⟨x, hx⟩ : ∃ x, y ++ [c] = x := ⟨_, rfl⟩
      obtain ⟨yn, hyn⟩ : ∃ yn, y.length = yn := ⟨_, rfl⟩
      rw [hyn] at hyl
      have hci : x[yn]? = some c := by rw [← hx, ← hyn]; simp
      have HO3 : Hid (OwnS w2 w.heap.size (.slice (some ⟨g, 0, none⟩) (pn + 1) c2) (p ++ [x])) := Lib.hid (by rw [← hx]; exact HO2.out)
      rw [hx] at hlast hyl hcell hxl HCL HM hx0
      have HCL2 := Lib.hid HCL.out
      rw [hlast] at HCL2
      have hyb : yn ≤ 4194304 := by omega
      have hyx : yn < x.length := by omega
      have hxe := idx_eq x yn hyx
      rw [List.getElem?_eq_getElem hyx] at hci
      injection hci with hci
      have hwx : IntKind.i64.wrap ((x.length : Int) - 1) = (yn : Int) := by rw [IntWalk.i64_in _ (by omega)]; omega
      have hne : (x == []) = false := by simpa using hx0
      have hie : x.isEmpty = false := by simpa using hx0
      clear hx hlast HML HPN HO2 HCL hyn
      by_cases hc : c = 10
      · have HC : Hid (closedN M = p ++ [x]) := Lib.hid ((HCL2.out.trans (if_pos (congrArg some hc))).trans HM.out.symm)
        have g1 : ((c.toNat : Int) == 10) = true := by rw [hc]; rfl
        have g2 : ((c.toNat : Int) != 10) = false := by rw [hc]; rfl
        clear hc
        go_wp2_with fail
        go_quiet (fail)
        go_wp2_with fail
        go_ret
        refine ⟨_, rfl, ?_, B2.out.trans (drewn _ _ _)⟩
        rw [HC.out]
        exact own_below HO3.out (fun _ _ _ => rfl)
      · have HC : Hid (closedN M = p ++ [x ++ [10]]) := Lib.hid (HCL2.out.trans (if_neg (fun e => hc (by injection e))))
        have g1 : ((c.toNat : Int) == 10) = false := by
          rw [beq_eq_false_iff_ne]; intro k2; exact hc (UInt8.toNat_inj.1 (by rw [show (10 : UInt8).toNat = 10 from rfl]; omega))
        have g2 : ((c.toNat : Int) != 10) = true := by rw [bne, g1]; rfl
        clear B2 hc
        go_wp2_with fail
        go_quiet (fail)
        have hc' : (w2.drewN nq).cell? ⟨g, pn, none⟩ = some (.string ⟨x.toArray⟩) := hcell
        have hf' : (w2.drewN nq).frozen? ⟨g, pn, none⟩ = false := hfr
        clear hcell hfr hyl hyx hxe hwx hne hie hci
        go_wp2_with fail
        go_ret
        refine ⟨_, rfl, ?_, FINB.out _ _⟩
        rw [HC.out]
        have e : (⟨x.toArray⟩ : ByteArray) ++ (⟨#[10]⟩ : ByteArray) = ⟨(x ++ [10]).toArray⟩ := by
          apply ByteArray.ext; simp
        have := FIN.out nq (x ++ [10])
        rw [← e] at this
        exact this
end Go.Proofs.Ytfiogjdjcocbnaa
