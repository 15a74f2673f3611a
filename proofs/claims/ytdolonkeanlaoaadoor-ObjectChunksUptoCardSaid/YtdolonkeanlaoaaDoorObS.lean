/- The walks of object's names, entries. -/
import Derived.Test.YtdolonkeanlaoaaDoorObR
namespace Go.Proofs.YtdolonkeanlaoaaDoor
open Go.RowKit
attribute [local simp high] id_size id_zero ent_size ent_zero n32_ne n35_ne

/-- A value that a call has made. -/
def ValP (n : Nat) (x : Val) (w : World) (e : Ending) (w' : World) : Prop := ∃ v, e = .returned v ∧ ReadsS (NewS w w') w' n v x ∧ Below w.heap.size w w'
theorem text_reads {S : Nat → Prop} {w : World} {vb : Value} {l : List UInt8} (n : Nat) (h : BytesC S w vb l) (hl : l.length ≤ 1048576) : ReadsS S w (n + 1) (.agg #[.int .i64 1, .int .u64 (0 : Nat), vb, .float .f64 (0 : Nat), .slice none 0 0]) (textV l) :=
  ⟨_, _, rfl, by omega, by omega, hl, by simp, h, Or.inl ⟨rfl, rfl⟩⟩
theorem num_reads {S : Nat → Prop} {w : World} (n k : Nat) (hk : k < 18446744073709551616) : ReadsS S w (n + 1) (.agg #[.int .i64 0, .int .u64 k, .slice none 0 0, .float .f64 (0 : Nat), .slice none 0 0]) (numV k) :=
  ⟨_, _, rfl, hk, by omega, by simp, by simp, Or.inl ⟨rfl, rfl⟩, Or.inl ⟨rfl, rfl⟩⟩
theorem real_reads {S : Nat → Prop} {w : World} (n f : Nat) (hf : f < 18446744073709551616) : ReadsS S w (n + 1) (.agg #[.int .i64 2, .int .u64 (0 : Nat), .slice none 0 0, .float .f64 f, .slice none 0 0]) (realV f) :=
  ⟨_, _, rfl, by omega, hf, by simp, by simp, Or.inl ⟨rfl, rfl⟩, Or.inl ⟨rfl, rfl⟩⟩
theorem row_reads {S : Nat → Prop} {w : World} {n : Nat} {v : Value} {l : List Val} (h : ListS S w (ReadsS S w n) v l) (hl : l.length ≤ 1048576) : ReadsS S w (n + 1) (.agg #[.int .i64 3, .int .u64 (0 : Nat), .slice none 0 0, .float .f64 (0 : Nat), v]) (rowV l) :=
  ⟨_, _, rfl, by omega, by omega, by simp, hl, Or.inl ⟨rfl, rfl⟩, h⟩
theorem deep_text (n : Nat) (l : List UInt8) : Deep (n + 1) (textV l) := fun y hy => by simp at hy
theorem deep_num (n k : Nat) : Deep (n + 1) (numV k) := fun y hy => by simp at hy
theorem deep_real (n f : Nat) : Deep (n + 1) (realV f) := fun y hy => by simp at hy
theorem deep_row {n : Nat} {l : List Val} (h : ∀ x ∈ l, Deep n x) : Deep (n + 1) (rowV l) := h
set_option maxRecDepth 100000 in
set_option maxHeartbeats 4000000 in
theorem wnames_any (S : Nat → Prop) (v : Value) (I : List (List UInt8)) (w : World) (hS : ∀ k, S k → k < w.heap.size) (hv : IDsC S w v I) (hl : I.length ≤ 1048576) :
    Calls Tryd.prog 32 #[v] w (ValP 15 (rowV (I.map textV)) w) := by
  have hst := run_storeF
  obtain ⟨ia, ic, rfl⟩ := hv.shape
  obtain ⟨i0, hi, hz0, hz1, hz2q⟩ := info_parts Tryd.info53
  have HV := Lib.hid (fun (W : World) (hb : Below w.heap.size w W) => hv.kept (S' := S) (w' := W) (fun k hk => ⟨hk, hb.block k (hS k hk)⟩))
  have HSS := Lib.hid hS
  obtain ⟨m, hm⟩ : ∃ m, I.length = m := ⟨_, rfl⟩
  have HM := Lib.hid hm
  rw [hm] at hl HV ⊢
  have hst0 : RStart w (w.alloc (.cells #[.int .i64 0, .int .u64 0, .slice none 0 0, .float .f64 0, .slice none 0 0] 53)) := RStart.of (Below.refl _ _)
  have H0 := Lib.hid hst0
  clear hv hS hm hst0
  go_enter Tryd.func32, Tryd.ntmps32
  go_wp2_with fail
  go_loopw [3, 8] (fun v i wr => ∃ (k : Nat) (qs : List Five), k ≤ m ∧ i = .int .i64 (k : Int) ∧ Hid (qs.length = k) ∧ Hid (Rows5 (w.heap.size + 1) wr 14 v qs ((I.map textV).take k)) ∧ Hid (RStart w wr)) (fun _ i _ => m - (intOf i).toNat)
  case atStart => exact ⟨0, [], Nat.zero_le _, rfl, Lib.hid rfl, Lib.hid (Rows5.nil _ _ _), H0⟩
  case round =>
    obtain ⟨k, qs, hk, rfl, hQ, hR, hS1⟩ := hrel
    have hsz := hS1.out.size
    by_cases hlt : k < m
    · have hI := HV.out wr hS1.out.below
      have hX := (show IDsC S wr (.slice ia I.length ic) I by rw [HM.out]; exact hI).len k (by rw [HM.out]; exact hlt)
      obtain ⟨ib, rfl, hib, hic, _⟩ := (show IDsC S wr (.slice ia I.length ic) I by rw [HM.out]; exact hI).at (by rw [HM.out]; omega)
      rw [HM.out] at hic
      have hcl := (show IDsC S wr (.slice (some ib) I.length ic) I by rw [HM.out]; exact hI).cells k (by rw [HM.out]; exact hlt)
      have HTK : Hid ((I.map textV).take (k + 1) = (I.map textV).take k ++ [textV (I.getD k [])]) := Lib.hid (by
        have hkl : k < I.length := by rw [HM.out]; exact hlt
        rw [List.take_succ_eq_append_getElem (by simpa using hkl)]
        simp [List.getD, hkl])
      generalize I.getD k [] = X at *
      have zx : (bv X).length = n32 := by rw [bv_len, hX]; rfl
      have i1 : IDAt (wr.alloc (.cells (bv zeros).toArray 33)) wr.heap.size zeros := IDAt.new wr
      have st1 := i1.write hX
      have i2 := i1.put hX
      have lc := i2.cells
      have HW := Lib.hid (below_setRow ((Below.refl wr.heap.size wr).alloc (Nat.le_refl _) (.cells (bv zeros).toArray 33)) (Nat.le_refl _) (bv X).toArray)
      have HX := Lib.hid hX
      have HZ : Hid (((wr.alloc (.cells (bv zeros).toArray 33)).setRow wr.heap.size (bv X).toArray).heap.size = wr.heap.size + 1) := Lib.hid (by simp [World.setRow])
      have hzz := zeros_len
      clear hI hX i1 i2
      go_upto_region 5 with fail
      clear st1 hcl
      generalize (wr.alloc (.cells (bv zeros).toArray 33)).setRow wr.heap.size (bv X).toArray = w5 at *
      go_wp2_with fail
      refine (oname_any X w5 HX.out).mono ?_
      rintro e w6 ⟨vb, rfl, hbv, hb6⟩
      obtain ⟨ba, bc, rfl⟩ := hbv.shape
      have hz5 := HZ.out
      have HB6 : Hid (Below wr.heap.size wr w6) := Lib.hid (HW.out.trans (hb6.mono (by omega)))
      have hz6 := HB6.out.size
      have hz56 := hb6.size
      have hXl : X.length ≤ 1048576 := by rw [HX.out]; omega
      have HRD : Hid (ReadsS (fun j => wr.heap.size ≤ j ∧ j < w6.heap.size) w6 14 (.agg #[.int .i64 1, .int .u64 (0 : Nat), .slice ba X.length bc, .float .f64 (0 : Nat), .slice none 0 0]) (textV X)) := Lib.hid (text_reads 13 (hbv.kept (fun j hj => ⟨⟨by omega, hj.2⟩, rfl⟩)) hXl)
      have hown0 : w6.ownsRow (w.heap.size + 1) 53 5 _ qs.length (qs.flatMap Five.flat) := own_below hR.out.own (fun j _ hj => HB6.out.block j hj)
      have hsrc := five_src w6 1 0 ba none X.length bc 0 0 0
      obtain ⟨xl, hxl⟩ : ∃ xl, X.length = xl := ⟨_, rfl⟩
      rw [hxl] at hsrc HRD ⊢
      have HBE : Hid (Below wr.heap.size wr (w6.alloc (.cells #[.int .i64 1, .int .u64 0, .slice ba xl bc, .float .f64 0, .slice none 0 0] 53))) := Lib.hid (HB6.out.alloc (by omega) _)
      have HQK := hQ
      rw [hQ.out] at hown0
      clear hbv hb6 hxl hXl lc zx
      go_wp2_with (at_builtin; refine wpList_own_src _ rfl _ _ 51 51 rfl (w.heap.size + 1) 53 i0 _ 5 72 Tryd.underlying51 hi hz0 hz1 hz2q rfl (by decide) _ _ _ rfl (hown0.alloc _) _ 1 _ rfl hsrc ?c3 ?c4 ?c5 ?_)
      case c3 => unfold maxLen; omega
      case c4 => omega
      case c5 => simp; omega
      intro v7 w7 hown7 hg7
      have hvb := fun j hj => (World.ownsRow.lt hown0 j hj).1
      rw [← HQK.out] at hown7
      have HN := Lib.hid (Rows5.grow (q := ⟨.int .i64 1, .int .u64 (0 : Nat), .slice ba xl bc, .float .f64 (0 : Nat), .slice none 0 0⟩) hR.out hsz hz6 (fun j _ hj => HB6.out.block j hj) HRD.out hg7 hown7)
      have HS7 : Hid (RStart w w7) := Lib.hid (by
        have hgz := hg7.size
        have hb7 : Below (w.heap.size + 1) wr w7 := (HBE.out.mono hsz).grown hg7.gb (by simp; omega) hvb
        exact ⟨(hb7.block w.heap.size (by omega)).trans hS1.out.blk, hS1.out.below.trans (hb7.mono (by omega)), by have := hb7.size; omega⟩)
      clear hown0 hown7 hg7 hvb hsrc
      go_wp2_with fail
      go_roundw
      case rel => exact ⟨k + 1, qs ++ [⟨.int .i64 1, .int .u64 (0 : Nat), .slice ba xl bc, .float .f64 (0 : Nat), .slice none 0 0⟩], by omega, by go_num, Lib.hid (by have := HQK.out; simp; omega), Lib.hid (by rw [HTK.out]; exact HN.out), HS7⟩
      case measure => simp [intOf]; omega
    · have hkm : k = m := by omega
      have HL : Hid (ListS (fun q => w.heap.size + 1 ≤ q ∧ q < wr.heap.size) wr (ReadsS (fun q => w.heap.size + 1 ≤ q ∧ q < wr.heap.size) wr 14) _ (I.map textV)) := Lib.hid (by
        have := hR.out.list
        rw [hkm, List.take_of_length_le (by rw [List.length_map, HM.out]; omega)] at this
        exact this)
      obtain ⟨ra, rc, hev⟩ := ListS.shape HL.out
      rw [hev] at HL ⊢
      have HR := Lib.hid (row_any 14 _ _ (I.map textV) wr (fun q hq => hq.2) (by rw [List.length_map, HM.out]; omega) (fun x hx => by obtain ⟨y, _, rfl⟩ := List.mem_map.1 hx; exact deep_text _ _) HL.out)
      obtain ⟨ml, hml⟩ : ∃ ml, (I.map textV).length = ml := ⟨_, rfl⟩
      have HML : Hid ((I.map textV).length ≤ 1048576) := Lib.hid (by rw [List.length_map, HM.out]; omega)
      rw [hml] at HR ⊢
      clear hkm hev HL hml
      go_wp2_with fail
      refine HR.out.mono ?_
      rintro e w6 ⟨vr, rfl, hvr, hb6⟩
      obtain ⟨va, vc, rfl⟩ := hvr.shape
      have HS6 := Lib.hid (hS1.out.step hb6)
      obtain ⟨⟨c0, c1, c2, c3, c4⟩, z0, z1, z2, z3, z4⟩ := five_cells HS6.out.blk
      have HV6 := Lib.hid hvr
      obtain ⟨ml, hml⟩ : ∃ ml, (I.map textV).length = ml := ⟨_, rfl⟩
      rw [hml] at HV6 ⊢
      clear hvr hb6 hml
      go_wp2_with fail
      obtain ⟨r0, r1, r2, r3, r4⟩ := set5_cells c0 c1 c2 c3 c4 (.int .i64 3) (.int .u64 0) (.slice none 0 0) (.float .f64 0) (.slice va ml vc)
      unfold set5 at r0 r1 r2 r3 r4
      refine bodyPost_ret (v := .agg #[.int .i64 3, .int .u64 0, .slice none 0 0, .float .f64 0, .slice va ml vc]) (by simp [results, Tryd.results32, go_sem, r0, r1, r2, r3, r4]) rfl ⟨_, rfl, ?_, HS6.out.fin _ _ _ _ _⟩
      refine row_reads (n := 14) ?_ HML.out
      have hsz2 := HS6.out.size
      exact HV6.out.kept (w' := set5 w6 w.heap.size (.int .i64 3) (.int .u64 0) (.slice none 0 0) (.float .f64 0) (.slice va ml vc)) HML.out (fun q hq => ⟨⟨by have := hq.1; omega, by show q < (set5 w6 w.heap.size _ _ _ _ _).heap.size; rw [set5_size]; exact hq.2⟩, set5_block _ _ _ _ _ _ _ _ (by have := hq.1; omega)⟩)
end Go.Proofs.YtdolonkeanlaoaaDoor
