/- What is small is written; the walk of the laws' awake. -/
import Derived.Test.YtdolonkeanlaoaaDoorObX
namespace Go.Proofs.YtdolonkeanlaoaaDoor
open Go.RowKit
attribute [local simp high] id_size id_zero ent_size ent_zero com_size com_zero n32_ne n35_ne n36_ne

/-- How many bytes a value takes at most. -/
def sizeV : Nat → Val → Nat
  | 0, _ => 0
  | n + 1, .mk _ _ b _ l => 40 + b.length + (l.map (sizeV n)).sum
/-- A value of the four kinds, whole. -/
def Okay : Nat → Val → Prop
  | 0, _ => False
  | n + 1, .mk k u b _ l => (k = 0 ∨ k = 1 ∨ k = 2 ∨ k = 3) ∧ u < 18446744073709551616 ∧ b.length ≤ 1048576 ∧ l.length ≤ 1048576 ∧ ∀ x ∈ l, Okay n x
theorem fold_small {n : Nat} (h : ∀ (x : Val) (o : List UInt8), Okay n x → o.length + sizeV n x ≤ 1048576 → ∃ q, encV n o x = .ok (o ++ q) ∧ q.length ≤ sizeV n x) :
    ∀ (l : List Val) (o : List UInt8), (∀ x ∈ l, Okay n x) → o.length + (l.map (sizeV n)).sum ≤ 1048576 → ∃ q, foldE (encV n) l o = .ok (o ++ q) ∧ q.length ≤ (l.map (sizeV n)).sum
  | [], o, _, _ => ⟨[], by simp [foldE], by simp⟩
  | x :: l, o, hx, hs => by
    simp only [List.map_cons, List.sum_cons] at hs
    obtain ⟨q, hq, hl⟩ := h x o (hx x List.mem_cons_self) (by omega)
    obtain ⟨p, hp, hpl⟩ := fold_small h l (o ++ q) (fun y hy => hx y (List.mem_cons_of_mem _ hy)) (by rw [List.length_append]; omega)
    refine ⟨q ++ p, ?_, by rw [List.length_append, List.map_cons, List.sum_cons]; omega⟩
    simp only [foldE, hq]
    rw [hp, List.append_assoc]
theorem enc_small : ∀ (n : Nat) (x : Val) (o : List UInt8), Okay n x → o.length + sizeV n x ≤ 1048576 → ∃ q, encV n o x = .ok (o ++ q) ∧ q.length ≤ sizeV n x
  | 0, _, _, h, _ => h.elim
  | n + 1, .mk k u b f l, o, ⟨hk, hu, hb, hll, hl⟩, hs => by
    simp only [sizeV] at hs ⊢
    rcases hk with rfl | rfl | rfl | rfl
    · have := headB_len 0 u hu
      refine ⟨headB 0 u, ?_, by omega⟩
      rw [enc_num]
      exact cap_ok (by rw [List.length_append]; omega)
    · have := headB_len 1 b.length (by omega)
      refine ⟨headB 1 b.length ++ b, ?_, by rw [List.length_append]; omega⟩
      rw [enc_bytes, if_neg (by omega), List.append_assoc]
      exact cap_ok (by rw [List.length_append, List.length_append]; omega)
    · have := headB_len 2 0 (by omega)
      have h8 := be8_len (canonB f)
      refine ⟨floatL f, ?_, by unfold floatL; rw [List.length_append]; omega⟩
      rw [enc_real]
      exact cap_ok (by unfold floatL; rw [List.length_append, List.length_append]; omega)
    · have := headB_len 3 l.length (by omega)
      obtain ⟨q, hq, hql⟩ := fold_small (enc_small n) l (o ++ headB 3 l.length) hl (by rw [List.length_append]; omega)
      refine ⟨headB 3 l.length ++ q, ?_, by rw [List.length_append]; omega⟩
      rw [enc_list, hq, List.append_assoc]
      exact cap_ok (by rw [List.length_append, List.length_append]; omega)
theorem okay_text (n : Nat) {b : List UInt8} (h : b.length ≤ 1048576) : Okay (n + 1) (textV b) := ⟨by simp, by omega, h, by simp, fun x hx => by simp at hx⟩
theorem okay_num (n : Nat) {k : Nat} (h : k < 18446744073709551616) : Okay (n + 1) (numV k) := ⟨by simp, h, by simp, by simp, fun x hx => by simp at hx⟩
theorem okay_real (n f : Nat) : Okay (n + 1) (realV f) := ⟨by simp, by omega, by simp, by simp, fun x hx => by simp at hx⟩
theorem okay_row {n : Nat} {l : List Val} (h : l.length ≤ 1048576) (hl : ∀ x ∈ l, Okay n x) : Okay (n + 1) (rowV l) := ⟨by simp, by omega, by simp, h, hl⟩
def id1 : List UInt8 := 1 :: List.replicate 31 0
def id2 : List UInt8 := 2 :: List.replicate 31 0
/-- The commit that is tried first. -/
def awC : ComN := ⟨zeros, [id1, id2], 4602678819172646912, [97, 110, 110], []⟩
theorem awC_ok : ∃ q, putComR awC = .ok q := by
  obtain ⟨q, hq, _⟩ := enc_small 16 (comV awC) [] (by
    unfold comV recV
    refine okay_row (n := 15) (by simp) (fun x hx => ?_)
    simp only [List.mem_cons, List.not_mem_nil, or_false] at hx
    rcases hx with rfl | rfl | rfl | rfl | rfl | rfl
    · exact okay_num 14 (by omega)
    · exact okay_text 14 (by simp [awC, zeros])
    · refine okay_row (n := 14) (by simp [awC]) (fun y hy => ?_)
      obtain ⟨z, hz, rfl⟩ := List.mem_map.1 hy
      refine okay_text 13 ?_
      simp only [awC, List.mem_cons, List.not_mem_nil, or_false] at hz
      rcases hz with rfl | rfl <;> simp [id1, id2]
    · exact okay_real 14 _
    · exact okay_text 14 (by simp [awC])
    · exact okay_text 14 (by simp [awC])) (by decide)
  refine ⟨q, ?_⟩
  unfold putComR
  rw [if_neg (by decide), if_neg (by decide)]
  exact hq
def awE : List EntN := [⟨[98], false, zeros, 0⟩, ⟨[97], false, zeros, 0⟩]
theorem awE_bad : putTreeR awE = .error 92 := by
  unfold putTreeR
  have h : orderE awE = 92 := by decide +kernel
  rw [if_neg (by decide), if_pos (by rw [h]; decide), h]
theorem aw_ids : List.foldl (fun (cs : Array Value) (x : Value × Nat) => cs.setIfInBounds (n32 + x.2) x.1) (List.foldl (fun (cs : Array Value) (x : Value × Nat) => cs.setIfInBounds x.2 x.1) (Array.map (fun x => (bv zeros)[x % n32]?.getD default) (Array.range (2 * n32))) ((bv zeros).set 0 (.int .u8 1)).zipIdx) ((bv zeros).set 0 (.int .u8 2)).zipIdx = (idsV [id1, id2]).toArray := by kernel_rfl
theorem aw_fold : (List.foldl (fun (cs : Array Value) (x : Value × Nat) => cs.setIfInBounds x.2 x.1) (Array.map (fun x => (bv zeros)[x % n32]?.getD default) (Array.range (2 * n32))) ((bv zeros).set 0 (.int .u8 1)).zipIdx).size = 64 := by kernel_rfl
theorem aw_size : ((List.foldl (fun (cs : Array Value) (x : Value × Nat) => cs.setIfInBounds x.2 x.1) (Array.map (fun x => (bv zeros)[x % n32]?.getD default) (Array.range (2 * n32))) ((bv zeros).set 0 (.int .u8 1)).zipIdx).size < n32 + n32) = False := by rw [aw_fold]; simp [n32]
theorem aw_efold : (List.foldl (fun (cs : Array Value) (x : Value × Nat) => cs.setIfInBounds x.2 x.1) (Array.map (fun x => (rowL n35 (entF noEnt))[x % n35]?.getD default) (Array.range (2 * n35))) ((rowL n35 (entF noEnt)).set 0 (.string ⟨#[98]⟩)).zipIdx).size = 70 := by kernel_rfl
theorem aw_esize : ((List.foldl (fun (cs : Array Value) (x : Value × Nat) => cs.setIfInBounds x.2 x.1) (Array.map (fun x => (rowL n35 (entF noEnt))[x % n35]?.getD default) (Array.range (2 * n35))) ((rowL n35 (entF noEnt)).set 0 (.string ⟨#[98]⟩)).zipIdx).size < n35 + n35) = False := by rw [aw_efold]; simp [n35]
theorem aw_ents : List.foldl (fun (cs : Array Value) (x : Value × Nat) => cs.setIfInBounds (n35 + x.2) x.1) (List.foldl (fun (cs : Array Value) (x : Value × Nat) => cs.setIfInBounds x.2 x.1) (Array.map (fun x => (rowL n35 (entF noEnt))[x % n35]?.getD default) (Array.range (2 * n35))) ((rowL n35 (entF noEnt)).set 0 (.string ⟨#[98]⟩)).zipIdx) ((rowL n35 (entF noEnt)).set 0 (.string ⟨#[97]⟩)).zipIdx = (entsV awE).toArray := by kernel_rfl
theorem aw_com (a : Option Addr) (n c : Nat) : (((rowL n36 (comF zeros none 0 0 0 [] [])).set 34 (.string ⟨#[97, 110, 110]⟩)).set 33 (.float .f64 4602678819172646912)).set 32 (.slice a n c) = rowL n36 (comF zeros a n c 4602678819172646912 [97, 110, 110] []) := by kernel_rfl
set_option maxRecDepth 100000 in
set_option maxHeartbeats 4000000 in
theorem aw_try (w : World) : Calls Tryd.prog 4 #[] w fun e w' => e = .returned (.bool true) ∧ Below w.heap.size w w' := by
  have hnl : (16777216 < n32) = False := by unfold n32; simp
  have hnl2 : (16777216 < 2 * n32) = False := by unfold n32; simp
  have hzl := zeros_len
  have hs1 : ((bv zeros).set 0 (.int .u8 1)).length = n32 := rfl
  have hs2 : ((bv zeros).set 0 (.int .u8 2)).length = n32 := rfl
  have hs3 := aw_size
  have hs4 : (2 * n32 = 0) = False := by simp [n32]
  have hids := aw_ids
  have hcm := aw_com
  have hol := rowL_len n36 comZ
  have H1 : Hid (IDsC (fun k => k = w.heap.size) (w.alloc (.cells (idsV [id1, id2]).toArray 33)) (.slice (some ⟨w.heap.size, 0, none⟩) 2 2) [id1, id2]) := Lib.hid (IDsC.kept (own_ids (B := w.heap.size) (I := [id1, id2]) ⟨rfl, Or.inr ⟨w.heap.size, 2, _, rfl, Nat.le_refl _, new_five w _ _, Nat.le_refl _, by unfold maxLen; omega, rfl, rfl⟩⟩ (fun x hx => by
    simp only [List.mem_cons, List.not_mem_nil, or_false] at hx
    rcases hx with rfl | rfl <;> rfl)) (fun k hk => ⟨by have h1 := hk.1; have h2 := hk.2; simp at h2; omega, rfl⟩))
  have HPC := Lib.hid (pcom_any (fun k => k = w.heap.size) (some ⟨w.heap.size, 0, none⟩) 2 2 awC (w.alloc (.cells (idsV [id1, id2]).toArray 33)) (fun k hk => by rw [hk]; simp) rfl H1.out (by omega) rfl (by decide) (by decide) (by decide))
  have HB0 : Hid (Below w.heap.size w (w.alloc (.cells (idsV [id1, id2]).toArray 33))) := Lib.hid ((Below.refl _ w).alloc (Nat.le_refl _) _)
  clear H1
  obtain ⟨q, hq⟩ := awC_ok
  rw [hq] at HPC
  have HQ := Lib.hid hq
  clear hq
  go_enter Tryd.func4, Tryd.ntmps4
  go_upto_region 1 with fail
  go_wp2_with fail
  refine HPC.out.mono ?_
  rintro e w1 ⟨vb, rfl, ho, hb1⟩
  have HBY := Lib.hid (own_c ho)
  obtain ⟨ba, bc, rfl⟩ := own_slice ho
  have HB1 := Lib.hid (HB0.out.trans (hb1.mono HB0.out.size))
  have HQL := Lib.hid (enc_len (n := 16) (show encR (comV awC) = .ok q by have := HQ.out; unfold putComR at this; rw [if_neg (by decide), if_neg (by decide)] at this; exact this))
  obtain ⟨ql, hql⟩ : ∃ n, q.length = n := ⟨_, rfl⟩
  have hbk := com_back (x := awC) rfl (fun y hy => by
    simp only [awC, List.mem_cons, List.not_mem_nil, or_false] at hy
    rcases hy with rfl | rfl <;> rfl) (by decide) HQ.out
  have HGC := Lib.hid (gcom_any (fun k => k < w1.heap.size) _ q w1 (fun k hk => hk) (HBY.out.kept (fun k hk => ⟨hk.2, rfl⟩)))
  rw [hbk.1, hql] at HGC
  have HKR := Lib.hid (com_kind hbk.1)
  rw [hql] at HBY ⊢
  clear ho hb1 hql hbk hids hcm hs1 hs2 hs3 hs4
  go_wp2_with fail
  refine HGC.out.mono ?_
  rintro e w2 ⟨vx, rfl, ⟨pa, pc, rfl, hI, _, _⟩, hb2⟩
  have hbz := HB1.out.trans (hb2.mono HB1.out.size)
  obtain ⟨G, hG⟩ : ∃ G : Nat → Value, G = comF (backC awC).tree pa (backC awC).parents.length pc (backC awC).stamp (backC awC).author (backC awC).note := ⟨_, rfl⟩
  have h1 : OneC n36 G := by rw [hG]; exact com_one _ _ _ _ _ _ _ _
  rw [← hG]
  have R0 := RF.new w2 40 n36 comZ
  have st0 := R0.write h1
  have hol2 := rowL_len n36 G
  have HA := Lib.hid (R0.put G)
  have HBR := Lib.hid (below_setRow (g := w2.heap.size) (hbz.alloc hbz.size (.cells (rowL n36 comZ).toArray 40)) hbz.size (rowL n36 G).toArray)
  have HBY2 : Hid (BytesC (fun k => k < w2.heap.size) ((w2.alloc (.cells (rowL n36 comZ).toArray 40)).setRow w2.heap.size (rowL n36 G).toArray) (.slice ba ql bc) q) := Lib.hid (HBY.out.kept (fun k hk => ⟨Nat.lt_of_lt_of_le hk.2 hb2.size, (setRow_other _ _ _ _ (by have := hb2.size; have := hk.2; omega)).trans ((Below.heap_alloc _ _ _ (Nat.lt_of_lt_of_le hk.2 hb2.size)).trans (hb2.block k hk.2))⟩))
  have HG := Lib.hid hG
  have HZ3 : Hid (((w2.alloc (.cells (rowL n36 comZ).toArray 40)).setRow w2.heap.size (rowL n36 G).toArray).heap.size = w2.heap.size + 1) := Lib.hid (by simp [World.setRow])
  clear hb2 hI R0 hbz hG h1 hnl hnl2
  go_upto_region 3 with fail
  clear st0 hol2 hol hzl
  generalize (w2.alloc (.cells (rowL n36 comZ).toArray 40)).setRow w2.heap.size (rowL n36 G).toArray = w3 at *
  obtain ⟨cb, hcb⟩ : ∃ cb, w2.heap.size = cb := ⟨_, rfl⟩
  rw [hcb] at HA HZ3 HBY2 ⊢
  clear hcb
  have hnl : (16777216 < n35) = False := by unfold n35; simp
  have hnl2 : (16777216 < 2 * n35) = False := by unfold n35; simp
  have hzl := rowL_len n35 (entF noEnt)
  have hs1 : ((rowL n35 (entF noEnt)).set 0 (.string ⟨#[98]⟩)).length = n35 := rfl
  have hs2 : ((rowL n35 (entF noEnt)).set 0 (.string ⟨#[97]⟩)).length = n35 := rfl
  have hs3 := aw_esize
  have hs4 : (2 * n35 = 0) = False := by simp [n35]
  have hids := aw_ents
  have H1 : Hid (EntsC (fun k => k = w3.heap.size) (w3.alloc (.cells (entsV awE).toArray 45)) (.slice (some ⟨w3.heap.size, 0, none⟩) 2 2) awE) := Lib.hid (RowsC.kept ent_keeps (own_ents (B := w3.heap.size) (l := awE) ⟨rfl, Or.inr ⟨w3.heap.size, 2, _, rfl, Nat.le_refl _, new_five w3 _ _, Nat.le_refl _, by unfold maxLen; omega, rfl, by rw [show awE.length * 35 = (entsV awE).length from rfl]; simp⟩⟩) (fun k hk => ⟨by have h1 := hk.1; have h2 := hk.2; simp at h2; omega, rfl⟩))
  have HPT := Lib.hid (ptree_any (fun k => k = w3.heap.size) _ awE (w3.alloc (.cells (entsV awE).toArray 45)) (fun k hk => by rw [hk]; simp) H1.out (by decide) (fun e he => by
    simp only [awE, List.mem_cons, List.not_mem_nil, or_false] at he
    rcases he with rfl | rfl <;> exact ⟨by decide, rfl, by decide⟩))
  rw [awE_bad] at HPT
  have HBe : Hid (Below w3.heap.size w3 (w3.alloc (.cells (entsV awE).toArray 45))) := Lib.hid ((Below.refl _ w3).alloc (Nat.le_refl _) _)
  clear H1
  go_wp2_with fail
  refine HPT.out.mono ?_
  rintro e w4 ⟨rfl, hb4⟩
  have HB4 : Hid (Below w3.heap.size w3 w4) := Lib.hid (HBe.out.trans (hb4.mono HBe.out.size))
  have HKI := Lib.hid (kind_any (fun k => k < w3.heap.size) _ q w4 (fun k hk => Nat.lt_of_lt_of_le hk HB4.out.size) (HBY2.out.kept (fun k hk => ⟨by have := HZ3.out; omega, HB4.out.block k (by have := HZ3.out; omega)⟩)))
  rw [HKR.out] at HKI
  clear hb4 hids hs1 hs2 hs3 hs4 hnl hnl2 hzl
  go_wp2_with fail
  refine HKI.out.mono ?_
  rintro e w5 ⟨vk, rfl, rfl, hb5⟩
  have HB5 : Hid (Below w3.heap.size w3 w5) := Lib.hid (HB4.out.trans (hb5.mono HB4.out.size))
  have HA5 := HA.out.kept (HB5.out.block cb (by have := HZ3.out; omega))
  have c34 : w5.cell? ⟨cb, 34, none⟩ = some (.string ⟨#[97, 110, 110]⟩) := by
    have := HA5.cell (k := 34) (by unfold n36; omega)
    rw [HG.out] at this
    exact this
  have c32 : w5.cell? ⟨cb, 32, none⟩ = some (.slice pa 2 pc) := by
    have := HA5.cell (k := 32) (by unfold n36; omega)
    rw [HG.out] at this
    exact this
  clear hb5 HA5
  go_wp2_with fail
  go_ret
  exact ⟨rfl, HBR.out.trans (HB5.out.mono HBR.out.size)⟩
end Go.Proofs.YtdolonkeanlaoaaDoor
