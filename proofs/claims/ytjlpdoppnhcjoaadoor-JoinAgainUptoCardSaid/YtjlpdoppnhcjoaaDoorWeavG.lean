/- The walk of closed. -/
import Derived.Test.YtjlpdoppnhcjoaaDoorWeavE
import Derived.Test.YtjlpdoppnhcjoaaDoorWeavMath
import Derived.Test.YtjlpdoppnhcjoaaDoorLinAll
namespace Go.Proofs.YtjlpdoppnhcjoaaDoor
open Go.RowKit

theorem suffix_nl (x : List UInt8) : Lib.hasSuffix x [10] = decide (x.getLast? = some 10) := by
  unfold Lib.hasSuffix
  rw [Bool.eq_iff_iff, List.isSuffixOf_iff_suffix, decide_eq_true_eq]
  constructor
  · rintro ⟨t, rfl⟩; simp
  · intro h
    obtain ⟨t, rfl⟩ : ∃ t, x = t ++ [10] := List.getLast?_eq_some_iff.1 h
    exact ⟨t, rfl⟩
theorem closedN_snoc (p : List (List UInt8)) (x : List UInt8) : closedN (p ++ [x]) = if x.getLast? = some 10 then p ++ [x] else p ++ [x ++ [10]] := by
  unfold closedN; simp
/-- The last text of a row of one's own is made another. -/
theorem ownS_last {w : World} {B : Nat} {a : Option Addr} {c : Nat} {l : List (List UInt8)} {x : List UInt8} (h : OwnS w B (.slice a (l.length + 1) c) (l ++ [x])) :
    ∃ g, a = some ⟨g, 0, none⟩ ∧ B ≤ g ∧ g < w.heap.size ∧ w.cell? ⟨g, l.length, none⟩ = some (.string ⟨x.toArray⟩) ∧ w.frozen? ⟨g, l.length, none⟩ = false ∧
      ∀ y : List UInt8, OwnS (w.setCell ⟨g, l.length, none⟩ (.string ⟨y.toArray⟩)) B (.slice a (l.length + 1) c) (l ++ [y]) := by
  have hl : (l ++ [x]).length = l.length + 1 := by simp
  have h' : w.ownsRow B 9 1 (.slice a (l.length + 1) c) (l.length + 1) (sv (l ++ [x])) := by unfold OwnS at h; rw [hl] at h; exact h
  obtain ⟨g, rfl⟩ : ∃ g, a = some ⟨g, 0, none⟩ := by
    rcases h'.2 with ⟨e, _⟩ | ⟨g, cap, cur, e, _⟩
    · simp at e
    · injection e with e; exact ⟨g, e⟩
  have hlt := World.ownsRow.lt h' g rfl
  refine ⟨g, rfl, hlt.1, hlt.2, ?_, h'.frozenAt _, fun y => ?_⟩
  · rw [h'.cellAt _ (by omega), sv_append, List.getElem?_append_right (by rw [sv_len]; exact Nat.le_refl _), sv_len, Nat.sub_self]; rfl
  · have := (h'.stored l.length (.string ⟨y.toArray⟩)).1
    unfold OwnS
    have e1 : (l ++ [y]).length = l.length + 1 := by simp
    rw [e1, sv_append]
    rw [sv_append, List.set_append_right _ _ (by rw [sv_len]; exact Nat.le_refl _), sv_len, Nat.sub_self] at this
    exact this
set_option maxRecDepth 100000 in
set_option maxHeartbeats 4000000 in
theorem closed_any (T : Nat → Prop) (B : Nat) (v vm : Value) (l more : List (List UInt8)) (w : World) (hB : B ≤ w.heap.size) (ho : OwnS w B v l) (hm : StrsC T w vm more) (hl : l.length ≤ 67108864) (hml : more.length ≤ 67108864) (hmx : ∀ x ∈ more, x.length ≤ 4194304) :
    Calls Tryd.prog 70 #[v, vm] w fun e w' => ∃ v', e = .returned v' ∧ OwnS w' B v' (l ++ closedN more) ∧ Grew w w' v v' := by
  obtain ⟨i0, hi, hz0, hz1, hz2⟩ := info_parts Tryd.info9s
  obtain ⟨la, lc, rfl⟩ := ownS_slice ho
  obtain ⟨ma, mc, rfl⟩ := hm.shape
  have HO := Lib.hid ho
  have SRC := Lib.hid hm.src
  by_cases hne : more = []
  · subst hne
    clear ho hm
    go_enter Tryd.func70, Tryd.ntmps70
    go_wp2_with fail
    go_ret
    exact ⟨_, rfl, by show OwnS _ _ _ (l ++ []); rw [List.append_nil]; exact HO.out, Grew.refl _ _⟩
  · obtain ⟨p, x, rfl⟩ : ∃ p x, more = p ++ [x] := ⟨more.dropLast, more.getLast hne, (List.dropLast_concat_getLast hne).symm⟩
    clear hne
    have hxl := hmx x (by simp)
    have hcl := closedN_snoc p x
    have hpl : (p ++ [x]).length = p.length + 1 := by simp
    obtain ⟨M, hM⟩ : ∃ M, p ++ [x] = M := ⟨_, rfl⟩
    rw [hM] at hm SRC hml hmx hcl hpl ⊢
    have HM := Lib.hid hM
    have HCL := Lib.hid hcl
    have gml : ((M.length : Int) == 0) = false := by rw [beq_eq_false_iff_ne]; omega
    have HPL := Lib.hid hpl
    have hsx : (⟨x.toArray⟩ : ByteArray).size ≤ 9223372036854775807 := by show x.toArray.size ≤ _; simp; omega
    have HSF := Lib.hid (fun W => Tryd.strings_HasSuffix ⟨x.toArray⟩ ⟨#[10]⟩ W hsx)
    clear ho hm hcl hM hpl hmx hsx
    go_enter Tryd.func70, Tryd.ntmps70
    go_upto_region 4 with (at_builtin; refine wpList_own_src _ rfl _ _ 85 85 rfl B 9 i0 (.string ByteArray.empty) 1 16 Tryd.underlying85 hi hz0 hz1 hz2 rfl (by decide) _ _ _ rfl HO.out _ M.length (sv M) rfl SRC.out (by unfold maxLen; omega) (by omega) hB ?_; intro v5 w5 hown5 hg5)
    have O5 : OwnS w5 B v5 ((l ++ p) ++ [x]) := by
      have h := ownS_more (l := l) (r := M) rfl hown5
      rw [← HM.out] at h
      rw [List.append_assoc]; exact h
    have G5 := Lib.hid hg5
    obtain ⟨a5, c5, rfl⟩ := ownS_slice O5
    have hlen : ((l ++ p) ++ [x]).length = (l ++ p).length + 1 := by simp; omega
    rw [hlen] at O5 G5 ⊢
    have hll : (l ++ p).length ≤ 134217728 := by have := HPL.out; simp; omega
    obtain ⟨g, rfl, hBg, hgl, hcell, hfr, hset⟩ := ownS_last O5
    have HSET := Lib.hid hset
    have HGL : Hid (∀ u, Grew w (w5.setCell ⟨g, (l ++ p).length, none⟩ u) (.slice la l.length lc) (.slice (some ⟨g, 0, none⟩) ((l ++ p).length + 1) c5)) := Lib.hid (fun u => G5.out.trans ⟨⟨rfl, rfl, rfl, by simp, fun k _ hk => Below.heap_setCell _ _ _ _ (fun e => hk (by subst e; rfl))⟩, fun k hk => Or.inl hk⟩)
    have HLP : Hid (∀ t, l ++ (p ++ t) = (l ++ p) ++ t) := Lib.hid (fun t => by rw [List.append_assoc])
    have HO5 := Lib.hid O5
    generalize l ++ p = q at *
    clear hown5 hg5 hset hlen O5
    obtain ⟨qn, hqn⟩ : ∃ qn, q.length = qn := ⟨_, rfl⟩
    rw [hqn] at hcell hfr hll HSET HGL HO5 G5 ⊢
    clear hqn
    have hsq := suffix_nl x
    by_cases hx : x.getLast? = some 10
    · have HC : Hid (closedN M = p ++ [x]) := Lib.hid ((HCL.out.trans (if_pos hx)).trans HM.out.symm)
      rw [decide_eq_true hx] at hsq
      have HS2 : Hid (∀ W : World, Calls Tryd.prog 81 #[.string ⟨x.toArray⟩, .string ⟨#[10]⟩] W fun e w' => e = .returned (.bool true) ∧ w' = W) := Lib.hid (fun W => by
        have h := HSF.out W
        rw [show Lib.hasSuffix (⟨x.toArray⟩ : ByteArray).data.toList (⟨#[10]⟩ : ByteArray).data.toList = true from hsq] at h
        exact h)
      clear HSF hsq HCL hx
      go_wp2_with fail
      refine (HS2.out _).mono ?_
      rintro e w6 ⟨rfl, rfl⟩
      go_wp2_with fail
      go_ret
      exact ⟨_, rfl, by rw [HC.out, HLP.out]; exact HO5.out, G5.out⟩
    · have HC : Hid (closedN M = p ++ [x ++ [10]]) := Lib.hid (HCL.out.trans (if_neg hx))
      rw [decide_eq_false hx] at hsq
      have HS2 : Hid (∀ W : World, Calls Tryd.prog 81 #[.string ⟨x.toArray⟩, .string ⟨#[10]⟩] W fun e w' => e = .returned (.bool false) ∧ w' = W) := Lib.hid (fun W => by
        have h := HSF.out W
        rw [show Lib.hasSuffix (⟨x.toArray⟩ : ByteArray).data.toList (⟨#[10]⟩ : ByteArray).data.toList = false from hsq] at h
        exact h)
      clear HSF hsq HCL hx
      go_wp2_with fail
      refine (HS2.out _).mono ?_
      rintro e w6 ⟨rfl, rfl⟩
      go_wp2_with fail
      go_ret
      refine ⟨_, rfl, ?_, HGL.out _⟩
      rw [HC.out, HLP.out]
      have e : (⟨x.toArray⟩ : ByteArray) ++ (⟨#[10]⟩ : ByteArray) = ⟨(x ++ [10]).toArray⟩ := by
        apply ByteArray.ext
        simp
      have := HSET.out (x ++ [10])
      rw [← e] at this
      exact this
end Go.Proofs.YtjlpdoppnhcjoaaDoor
