/- The walks of the law's tree, of the reference's ordered. -/
import Derived.Test.YtdolonkeanlaoaaObRd
import Derived.Test.YtdolonkeanlaoaaPathRef
namespace Go.Proofs.Ytdolonkeanlaoaa
open Go.RowKit Go.Lib
theorem rent_size (w : World) : (sizeOf 91).run Try.prog w = .ok n35 w := by rw [Try.sizeOf91]; rfl
theorem rent_zero (w : World) : (zeroValue 91).run Try.prog w = .ok (.agg (rowL n35 (entF noEnt)).toArray) w := by rw [Try.zeroValue91]; kernel_rfl
theorem rent_agg (w : World) : (isAgg 91).run Try.prog w = .ok true w := by rw [Try.isAgg91]
theorem rent_info : (Try.prog.info? 91).map (fun i => (i.zero, i.size, i.bytes)) = some (some (.agg (rowL n35 (entF noEnt)).toArray), 35, 64) := by kernel_rfl
attribute [local simp high] id_size id_zero ent_size ent_zero rent_size rent_zero n32_ne n35_ne
theorem ent_build_f (p : List UInt8) (b : Bool) (s : Nat) (f : Nat → UInt8) : (List.foldl (fun (cs : Array Value) (x : Value × Nat) => cs.setIfInBounds (2 + x.2) x.1) (((rowL n35 (entF noEnt)).set 0 (.string ⟨p.toArray⟩)).set 1 (.bool b)).toArray (bv (idL f)).zipIdx).setIfInBounds 34 (.float .f64 s) = (rowL n35 (entF ⟨p, b, idL f, s⟩)).toArray := by kernel_rfl
theorem ent_build (p X : List UInt8) (b : Bool) (s : Nat) (hX : X.length = 32) : (List.foldl (fun (cs : Array Value) (x : Value × Nat) => cs.setIfInBounds (2 + x.2) x.1) (((rowL n35 (entF noEnt)).set 0 (.string ⟨p.toArray⟩)).set 1 (.bool b)).toArray (bv X).zipIdx).setIfInBounds 34 (.float .f64 s) = (rowL n35 (entF ⟨p, b, X, s⟩)).toArray := by
  rw [idL_of hX]; exact ent_build_f p b s _
theorem ent_bsize_f (p : List UInt8) (b : Bool) (f : Nat → UInt8) : (List.foldl (fun (cs : Array Value) (x : Value × Nat) => cs.setIfInBounds (2 + x.2) x.1) (((rowL n35 (entF noEnt)).set 0 (.string ⟨p.toArray⟩)).set 1 (.bool b)).toArray (bv (idL f)).zipIdx).size = 35 := by kernel_rfl
theorem ent_bsize (p X : List UInt8) (b : Bool) (hX : X.length = 32) : ((List.foldl (fun (cs : Array Value) (x : Value × Nat) => cs.setIfInBounds (2 + x.2) x.1) (((rowL n35 (entF noEnt)).set 0 (.string ⟨p.toArray⟩)).set 1 (.bool b)).toArray (bv X).zipIdx).size < 35) = False := by
  rw [idL_of hX, ent_bsize_f]; simp
theorem rown_ents {w : World} {B : Nat} {v : Value} {l : List EntN} (h : w.ownsRow B 91 35 v l.length (entsV l)) : EntsC (fun k => B ≤ k ∧ k < w.heap.size) w v l :=
  ⟨l.map fun e => rowL n35 (entF e), by simp, fun cs hc => by obtain ⟨y, _, rfl⟩ := List.mem_map.1 hc; exact rowL_len _ _, (own_cells h (entsV_one l)).kept (fun _ hk => ⟨hk, rfl⟩), fun j e cs he hc => by
    rw [List.getElem?_map, he] at hc
    injection hc with hc
    exact hc.symm⟩
theorem rsrcE_one (w : World) (e : EntN) : Src Try.prog 35 42 (.slice (some ⟨w.heap.size, 0, none⟩) 1 1) 1 (rowL n35 (entF e)) (w.alloc (.cells (rowL n35 (entF e)).toArray 91)) := by
  refine Src.ofSlice _ Try.underlying42 _ _ 1 _ (by rw [rowL_len]; rfl) (fun j u hj => ?_) (fun u hu => rowL_one (ent_one e n35) u hu)
  rw [Addr.add_mid, Nat.zero_add, cell_of_row (w.alloc (.cells (rowL n35 (entF e)).toArray 91)) _ _ _ _ _ (new_five w _ _)]
  simpa using hj
theorem take_nextE {l : List EntN} {k : Nat} (h : k < l.length) : l.take (k + 1) = l.take k ++ [l.getD k noEnt] := by
  rw [List.take_add_one]
  simp [List.getD, h]
set_option maxRecDepth 100000 in
set_option maxHeartbeats 8000000 in
theorem ltree_any (S : Nat → Prop) (v : Value) (l : List EntN) (w : World) (hS : ∀ k, S k → k < w.heap.size) (hv : EntsC S w v l) (hl : l.length ≤ 1048576) (hid : ∀ e ∈ l, e.id.length = 32) :
    Calls Try.prog 13 #[v] w fun e w' => ∃ v', e = .returned v' ∧ EntsC (NewS w w') w' v' l ∧ Below w.heap.size w w' := by
  obtain ⟨i0, hi, hz0, hz1, hz2q⟩ := info_parts rent_info
  obtain ⟨la, lc, rfl⟩ := RowsC.shape hv
  have HV := Lib.hid (fun (W : World) (hb : Below w.heap.size w W) => RowsC.kept ent_keeps hv (S' := S) (w' := W) (fun k hk => ⟨hk, hb.block k (hS k hk)⟩))
  have HSS := Lib.hid hS
  have HID := Lib.hid hid
  clear hv hS hid
  go_enter Try.func13, Try.ntmps13
  go_wp2_with fail
  go_loopw [3, 8] (fun v i wr => ∃ k : Nat, k ≤ l.length ∧ i = .int .i64 (k : Int) ∧ Hid (wr.ownsRow w.heap.size 91 35 v k (entsV (l.take k))) ∧ Hid (Below w.heap.size w wr)) (fun _ i _ => l.length - (intOf i).toNat)
  case atStart => exact ⟨0, Nat.zero_le _, rfl, Lib.hid (World.ownsRow_nil _ _ _ _), Lib.hid (Below.refl _ _)⟩
  case round =>
    obtain ⟨k, hk, rfl, hO, hB⟩ := hrel
    by_cases hlt : k < l.length
    · obtain ⟨g, o, rfl, hSg, _, hc2, hat⟩ := EntsC.at (HV.out wr hB.out) (by omega)
      have hck := fun j (hj : j < n35) => hat k hlt j (by unfold n35 at hj; exact hj)
      have HTK : Hid (entsV (l.take (k + 1)) = entsV (l.take k) ++ rowL n35 (entF (l.getD k noEnt))) := Lib.hid (by rw [take_nextE hlt, entsV_snoc])
      have hXl : (l.getD k noEnt).id.length = 32 := HID.out _ (getD_mem hlt)
      clear hat
      generalize l.getD k noEnt = f at *
      have c1 := load_row wr g (o + k * n35) n35 (entF f) hck
      have i1 := RF.new wr 76 n35 (entF noEnt)
      have c2 := i1.write (ent_one f n35)
      have HI := Lib.hid (i1.put (entF f))
      have HW := Lib.hid (below_setRow ((Below.refl wr.heap.size wr).alloc (Nat.le_refl _) (.cells (rowL n35 (entF noEnt)).toArray 76)) (Nat.le_refl _) (rowL n35 (entF f)).toArray)
      have hol := rowL_len n35 (entF f)
      have hol2 := rowL_len n35 (entF noEnt)
      clear hck i1
      go_upto_region 5 with fail
      clear c1 c2 hol
      generalize (wr.alloc (.cells (rowL n35 (entF noEnt)).toArray 76)).setRow wr.heap.size (rowL n35 (entF f)).toArray = w5 at *
      obtain ⟨fb, hfb⟩ : ∃ fb, wr.heap.size = fb := ⟨_, rfl⟩
      rw [hfb] at HI ⊢
      have c0 : w5.cell? ⟨fb, 0, none⟩ = some (.string ⟨f.name.toArray⟩) := HI.out.cell (k := 0) (by unfold n35; omega)
      have c1 : w5.cell? ⟨fb, 1, none⟩ = some (.bool f.folder) := HI.out.cell (k := 1) (by unfold n35; omega)
      have cid := HI.out.load (o := 2) (m := n32) (by unfold n32 n35; omega)
      rw [ent_id hXl] at cid
      have c34 : w5.cell? ⟨fb, 34, none⟩ = some (.float .f64 f.stamp) := HI.out.cell (k := 34) (by unfold n35; omega)
      have HB5 : Hid (Below w.heap.size w w5) := Lib.hid (hB.out.trans (HW.out.mono hB.out.size))
      have HO5 := Lib.hid (row_kept (w' := w5) hO.out (fun q hq => HW.out.block q (World.ownsRow.lt hO.out q hq).2))
      obtain ⟨p, fo, X, s⟩ := f
      simp only at c0 c1 cid c34 hXl HTK
      have hbl : (bv X).length = n32 := by rw [bv_len, hXl]; rfl
      have hfi := ent_build p X fo s hXl
      have hfs := ent_bsize p X fo hXl
      have hne := ent_ne
      have hlt5 := ent_lt
      have hol := rowL_len n35 (entF ⟨p, fo, X, s⟩)
      have hbi := build_rowN n35 (entF noEnt) (entF ⟨p, fo, X, s⟩)
      have hnl : (16777216 < n35) = False := by unfold n35; simp
      have hone := rowL_one (ent_one ⟨p, fo, X, s⟩ n35)
      have HSRC : Hid (∀ W : World, Src Try.prog 35 42 (.slice (some ⟨W.heap.size, 0, none⟩) 1 1) 1 (rowL n35 (entF ⟨p, fo, X, s⟩)) (W.alloc (.cells (rowL n35 (entF ⟨p, fo, X, s⟩)).toArray 91))) := Lib.hid (fun W => rsrcE_one W _)
      generalize bv X = ix at *
      generalize rowL n35 (entF ⟨p, fo, X, s⟩) = R at *
      obtain ⟨F, hF⟩ : ∃ F, List.foldl (fun (cs : Array Value) (x : Value × Nat) => cs.setIfInBounds (2 + x.2) x.1) (((rowL n35 (entF noEnt)).set 0 (.string ⟨p.toArray⟩)).set 1 (.bool fo)).toArray ix.zipIdx = F := ⟨_, rfl⟩
      rw [hF] at hfi hfs
      obtain ⟨oa, oc, rfl⟩ := row_shape_any HO5.out
      have hz5 := HB5.out.size
      clear hfb hXl HI HW
      go_wp2_with (at_builtin; refine wpList_own_src _ rfl _ _ 42 42 rfl w.heap.size 91 i0 (.agg (rowL n35 (entF noEnt)).toArray) 35 64 Try.underlying42 hi hz0 hz1 hz2q rfl (by decide) _ _ _ rfl (World.ownsRow.alloc HO5.out _) _ 1 R rfl (HSRC.out _) ?c3 ?c4 ?c5 ?_)
      case c3 => unfold maxLen; omega
      case c4 => omega
      case c5 => simp; omega
      intro v4 w4 hown4 hg4
      have hB4 : Hid (Below w.heap.size w w4) := Lib.hid ((HB5.out.alloc HB5.out.size (.cells R.toArray 91)).grown hg4.gb (by simp; omega) (fun q hq => (World.ownsRow.lt (World.ownsRow.alloc HO5.out (.cells R.toArray 91)) q hq).1))
      have hO4 : Hid (w4.ownsRow w.heap.size 91 35 v4 (k + 1) (entsV (l.take (k + 1)))) := Lib.hid (by rw [HTK.out]; exact hown4)
      clear hown4 hg4 hbi hbl hol hol2 hnl hfi hfs hne hlt5 c0 c1 cid c34 hF hone
      go_wp2
      go_roundw
      case rel => exact ⟨k + 1, by omega, by go_num, hO4, hB4⟩
      case measure => simp [intOf]; omega
    · obtain rfl : k = l.length := by omega
      have hO2 := hO.out
      rw [List.take_length] at hO2
      have HE := Lib.hid (rown_ents hO2)
      clear hO hO2
      go_wp2_with fail
      go_ret
      exact ⟨_, rfl, HE.out, hB.out⟩
set_option maxRecDepth 100000 in
set_option maxHeartbeats 4000000 in
theorem dordered_any (S : Nat → Prop) (v : Value) (l : List EntN) (w : World) (hS : ∀ k, S k → k < w.heap.size) (hv : EntsC S w v l) (hT : ∀ e ∈ l, e.name.length ≤ 4194304) (hl : l.length ≤ 1048576) :
    Calls Try.prog 42 #[v] w fun e w' => e = .returned (.int .i64 (if 1024 < l.length then 2 else orderE l)) ∧ Below w.heap.size w w' := by
  obtain ⟨la, lc, rfl⟩ := RowsC.shape hv
  by_cases hbig : 1024 < l.length
  · rw [if_pos hbig]
    clear hv hT
    go_enter Try.func42, Try.ntmps42
    go_wp2_with fail
    go_ret
    exact ⟨rfl, Below.refl _ _⟩
  rw [if_neg hbig]
  unfold orderE
  obtain ⟨R, hR⟩ : ∃ R, firstE (entFault l) l.length 0 = R := ⟨_, rfl⟩
  have HR : Hid (firstE (entFault l) (l.length - 0) 0 = R) := Lib.hid hR
  rw [hR]
  have HV := Lib.hid (fun (W : World) (hb : Below w.heap.size w W) => RowsC.kept ent_keeps hv (S' := S) (w' := W) (fun k hk => ⟨hk, hb.block k (hS k hk)⟩))
  have HSS := Lib.hid hS
  have HT := Lib.hid hT
  clear hv hR hT hS
  go_enter Try.func42, Try.ntmps42
  go_wp2_with fail
  go_loopw [3] (fun i wr => ∃ k : Nat, k ≤ l.length ∧ i = .int .i64 (k : Int) ∧ Hid (firstE (entFault l) (l.length - k) k = R) ∧ Hid (Below w.heap.size w wr)) (fun i _ => l.length - (intOf i).toNat)
  case atStart => exact ⟨0, Nat.zero_le _, rfl, HR, Lib.hid (Below.refl _ _)⟩
  case round =>
    obtain ⟨k, hk, rfl, hE2, hB⟩ := hrel
    by_cases hlt : k < l.length
    · obtain ⟨g, o, rfl, hSg, _, hc2, hat⟩ := EntsC.at (HV.out wr hB.out) (by omega)
      have hg : g < wr.heap.size := Nat.lt_of_lt_of_le (HSS.out g hSg) hB.out.size
      have HFK : Hid (nameAt l k = (l.getD k noEnt).name) := Lib.hid rfl
      have HFM : Hid ((l.getD k noEnt).name.length ≤ 4194304) := Lib.hid (HT.out _ (getD_mem hlt))
      have HFP : Hid (∀ p, p < k → wr.cell? ⟨g, o + p * n35, none⟩ = some (.string ⟨(nameAt l p).toArray⟩)) := Lib.hid (fun p hp => by
        have h := hat p (by omega) 0 (by omega)
        rw [Nat.add_zero] at h
        exact h)
      have c0 := hat k hlt 0 (by omega)
      rw [Nat.add_zero] at c0
      replace c0 : wr.cell? ⟨g, o + k * n35, none⟩ = some (.string ⟨(l.getD k noEnt).name.toArray⟩) := c0
      clear hat
      generalize l.getD k noEnt = f at *
      obtain ⟨fname, hfn⟩ : ∃ n, f.name = n := ⟨_, rfl⟩
      rw [hfn] at c0 HFM HFK
      clear hfn
      have HCK := Lib.hid (rname_any fname wr (by have := HFM.out; omega))
      obtain ⟨ck, hck⟩ : ∃ c, nameB fname = c := ⟨_, rfl⟩
      rw [hck] at HCK
      have HCE : Hid (nameB (nameAt l k) = ck) := Lib.hid (by rw [HFK.out]; exact hck)
      clear hck
      go_wp2_with fail
      refine HCK.out.mono ?_
      rintro e w6 ⟨rfl, rfl⟩
      have HRS : Hid (R = if entFault l k ≠ 0 then entFault l k else firstE (entFault l) (l.length - (k + 1)) (k + 1)) := Lib.hid (by
        rw [← hE2.out, show l.length - k = (l.length - (k + 1)) + 1 by omega]; rfl)
      have HFA : Hid (entFault l k = if ck = false then 50 else if k = 0 then 0 else if ltB (nameAt l (k - 1)) fname = true then 0 else 92) := Lib.hid (by unfold entFault; rw [HCE.out, HFK.out])
      clear hE2 HCK
      cases ck
      · have HRE : Hid (R = 50) := Lib.hid (by
          have h0 : entFault l k = 50 := by rw [HFA.out, if_pos rfl]
          rw [HRS.out, h0, if_pos (by simp)])
        go_wp2_with fail
        go_ret
        exact ⟨by rw [HRE.out]; rfl, hB.out⟩
      · obtain ⟨nx, hnx⟩ : ∃ p, k - 1 = p := ⟨_, rfl⟩
        by_cases hk0 : k = 0
        · have HRE : Hid (firstE (entFault l) (l.length - (k + 1)) (k + 1) = R) := Lib.hid (by
            have h0 : entFault l k = 0 := by rw [HFA.out, if_neg (by simp), if_pos hk0]
            rw [HRS.out, h0, if_neg (by simp)])
          have g0 : decide ((k : Int) > 0) = false := decide_eq_false (by omega)
          have g1 : decide ((0 : Int) < (k : Int)) = false := decide_eq_false (by omega)
          have g2 : decide (0 < k) = false := decide_eq_false (by omega)
          clear hnx hk0
          go_upto_region 8 with fail
          go_quiet (fail)
          go_wp2_with fail
          go_roundw
          case rel => exact ⟨k + 1, by omega, by go_num, HRE, Lib.hid (hB.out.trans ((drewn _ _ _).mono hB.out.size))⟩
          case measure => simp [intOf]; omega
        · have hkp : k = nx + 1 := by omega
          have hpi : (k : Int) - 1 = (nx : Int) := by omega
          have hpw : IntKind.i64.wrap ((k : Int) - 1) = (nx : Int) := by rw [hpi]; exact IntWalk.i64_in _ (by omega)
          have hp0 : (0 : Int) ≤ (nx : Int) := by omega
          have hpn : ((nx : Nat) : Int).toNat = nx := by omega
          have hpm : (nx : Int) < (l.length : Int) := by omega
          have c7 := HFP.out nx (by omega)
          have g0 : decide ((k : Int) > 0) = true := decide_eq_true (by omega)
          have g1 : decide ((0 : Int) < (k : Int)) = true := decide_eq_true (by omega)
          have g2 : decide (0 < k) = true := decide_eq_true (by omega)
          rw [hnx] at HFA
          have HK0 := Lib.hid hk0
          generalize nameAt l nx = q at *
          clear hnx hk0 hkp
          cases hlq : ltB q fname
          · have HRE : Hid (R = 92) := Lib.hid (by
              have h0 : entFault l k = 92 := by rw [HFA.out, if_neg (by simp), if_neg HK0.out, hlq, if_neg (by simp)]
              rw [HRS.out, h0, if_pos (by simp)])
            have hb0 : Op.bytesLess q fname = false := hlq
            by_cases he : fname = q
            · have hb1 : Op.bytesLess fname q = false := by rw [he]; exact less_self q
              have hb2 : (fname == q) = true := by rw [he]; simp
              have hb3 : (q == fname) = true := by rw [he]; simp
              clear hlq he
              go_upto_region 8 with fail
              go_quiet (fail)
              go_wp2_with fail
              go_ret
              exact ⟨by rw [HRE.out]; rfl, hB.out.trans ((drewn _ _ _).mono hB.out.size)⟩
            · have hb1 : Op.bytesLess fname q = true := less_conn hlq he
              have hb2 : (fname == q) = false := by rw [beq_eq_false_iff_ne]; exact he
              have hb3 : (q == fname) = false := by rw [beq_eq_false_iff_ne]; exact fun h => he h.symm
              clear hlq he
              go_upto_region 8 with fail
              go_quiet (fail)
              go_wp2_with fail
              go_ret
              exact ⟨by rw [HRE.out]; rfl, hB.out.trans ((drewn _ _ _).mono hB.out.size)⟩
          · have HRE : Hid (firstE (entFault l) (l.length - (k + 1)) (k + 1) = R) := Lib.hid (by
              have h0 : entFault l k = 0 := by rw [HFA.out, if_neg (by simp), if_neg HK0.out, hlq, if_pos rfl]
              rw [HRS.out, h0, if_neg (by simp)])
            have hb0 : Op.bytesLess q fname = true := hlq
            obtain ⟨hb1, hb2⟩ := less_asym (show Op.bytesLess q fname = true from hlq)
            have hb3 : (q == fname) = false := by rw [beq_eq_false_iff_ne] at hb2 ⊢; exact fun h => hb2 h.symm
            clear hlq
            go_upto_region 8 with fail
            go_quiet (fail)
            go_wp2_with fail
            go_roundw
            case rel => exact ⟨k + 1, by omega, by go_num, HRE, Lib.hid (hB.out.trans ((drewn _ _ _).mono hB.out.size))⟩
            case measure => simp [intOf]; omega
    · have HRE : Hid (R = 0) := Lib.hid (by have := hB; rw [← hE2.out, show l.length - k = 0 by omega]; rfl)
      go_wp2_with fail
      go_ret
      exact ⟨by rw [HRE.out]; rfl, hB.out⟩
end Go.Proofs.Ytdolonkeanlaoaa
