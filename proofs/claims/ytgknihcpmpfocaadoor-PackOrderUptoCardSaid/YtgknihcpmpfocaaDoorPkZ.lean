/- The law PackOnce, walked. -/
import Derived.Test.YtgknihcpmpfocaaDoorPkY
namespace Go.Proofs.YtgknihcpmpfocaaDoor
open Go.RowKit Go.Maps
attribute [local simp high] id_size id_zero

/-- A pack of one file, as the rounds find it. -/
def OnceI (w wr : World) (bp bf i : Nat) : Prop := ∃ F T s all, PkG w F T wr bp bf s [112] all ∧ s.steps ≤ i + 1 ∧ OneF s
theorem PkG.few {w0 w : World} {F T : Nat → Prop} {bp bf : Nat} {s : Fs} {x : Nm} {all : List (List UInt8)} (g : PkG w0 F T w bp bf s x all) : (idsOf all).length ≤ 1073741824 := by
  have h1 := idsOf_len all
  have h2 := framesL_ge all
  have h3 := readS_len g.fs.ok g.read
  omega
/-- IDs, as the laws call it: how many. -/
theorem count_any {w0 w : World} {F T : Nat → Prop} {bp bf : Nat} {s : Fs} {x : Nm} {all : List (List UInt8)} (g : PkG w0 F T w bp bf s x all) :
    Calls Tryd.prog 13 #[.pointer (some ⟨bp, 0, none⟩)] w fun e w' => ∃ a c, e = .returned (.slice a (idsOf all).length c) ∧ Below w.heap.size w w' := by
  obtain ⟨bm, n, D, vi, h, _, _⟩ := g.pk
  refine (ids_any h g.few).mono ?_
  rintro e w' ⟨v, rfl, h1, h2⟩
  obtain ⟨a, c, rfl⟩ := row_shape_any h1
  exact ⟨a, c, rfl, h2⟩
theorem addR_32 {s : Fs} {x : Nm} {all : List (List UInt8)} {d : List UInt8} {s' : Fs} {all' : List (List UInt8)} {X : List UInt8} {c : Int} (h : addR s x all d = (s', all', X, c)) : X.length = 32 := by
  by_cases hc : c = 0
  · subst hc
    rw [(addR_good h).1]; exact sumN_len _
  · rw [(addR_bad h hc).2]; rfl
set_option maxRecDepth 100000 in
set_option maxHeartbeats 8000000 in
theorem once_law (S : Nat → Prop) (v : Value) (ls : List (List UInt8)) (n0 : Int) (w : World) (h : ChunksC S w v ls) (hS : ∀ k, S k → k < w.heap.size) (hE : Env w) (hP : PEnv w) (hl : ls.length ≤ 1048576) (hll : ∀ x ∈ ls, x.length ≤ 1048576) :
    Calls Tryd.prog 4 #[v, .int .i64 n0] w fun e w' => e = .returned (.bool true) ∧ Below w.heap.size w w' := by
  have HA := Lib.hid (awake_any w hE hP)
  have HS := Lib.hid hS
  have HE := Lib.hid hE
  have HP := Lib.hid hP
  have HC := Lib.hid h
  have HLL := Lib.hid hll
  obtain ⟨a, c, rfl⟩ : ∃ a c, v = .slice a ls.length c := by
    rcases h with ⟨h1, h2⟩ | ⟨x, cap, h1, _⟩
    · exact ⟨none, 0, by rw [h1, h2]; rfl⟩
    · exact ⟨some x, cap, h1⟩
  obtain ⟨n, hn⟩ : ∃ n, ls.length = n := ⟨_, rfl⟩
  have HN := Lib.hid hn
  have HCL : Hid (∀ W, Below w.heap.size w W → ChunksC S W (.slice a n c) ls) := Lib.hid (fun W hW => by
    have h2 := HC.out.kept (S' := S) (w' := W) (fun k hk => ⟨hk, hW.block k (hS k hk)⟩)
    rw [hn] at h2; exact h2)
  rw [hn] at hl ⊢
  clear h hS hE hP hll hn
  go_enter Tryd.func4, Tryd.ntmps4
  go_wp2_with fail
  refine HA.out.mono ?_
  rintro e w1 ⟨rfl, hb1⟩
  have B1 := Lib.hid hb1
  clear hb1 HA
  by_cases hbad : n0 < 0 ∨ 4194304 < n0
  · have HNW := Lib.hid (new_bad n0 w1 hbad)
    have HWR := rwrong_any n0 w1
    rw [if_pos hbad] at HWR
    have HWW := Lib.hid HWR
    clear HWR hbad
    go_wp2_with fail
    refine HNW.out.mono ?_
    rintro e w2 ⟨rfl, rfl⟩
    go_wp2_with fail
    refine HWW.out.mono ?_
    rintro e w3 ⟨rfl, rfl⟩
    go_wp2_with fail
    go_ret
    exact ⟨rfl, B1.out⟩
  · obtain ⟨r0, rfl⟩ : ∃ r0 : Nat, n0 = (r0 : Int) := ⟨n0.toNat, by omega⟩
    have HNW := Lib.hid (g_new B1.out r0 (by omega))
    clear hbad
    go_wp2_with fail
    refine HNW.out.mono ?_
    rintro e w2 ⟨bf, rfl, g2, _⟩
    have G2 : Hid (FsG w (fun _ => False) w2 bf (newS r0)) := Lib.hid (g2.less (fun _ h => h.elim))
    clear g2 HNW
    have HCR := Lib.hid (pcreate_any G2.out (Nat.zero_le _) HP.out [112] (by decide))
    go_wp2_with fail
    refine HCR.out.mono ?_
    rintro e w3 ⟨_, _, h2⟩
    rcases h2 with ⟨h2, _⟩ | ⟨_, bp, T2, rfl, g3, _⟩
    · exact absurd (new_one r0).1 h2
    have G3 := Lib.hid g3
    have O3 : Hid (OnceI w w3 bp bf 0) := Lib.hid ⟨_, _, _, _, g3, by rw [(new_one r0).2.2]; omega, (new_one r0).2.1⟩
    have B3 := Lib.hid g3.fs.below
    clear g3 HCR G2
    by_cases hfew : 50 < n
    · have hd : decide ((50 : Int) < (n : Int)) = true := decide_eq_true (by omega)
      have hd2 : decide ((n : Int) > 50) = true := decide_eq_true (by omega)
      clear hfew
      go_wp2_with fail
      go_ret
      exact ⟨rfl, B3.out⟩
    · have hd : decide ((50 : Int) < (n : Int)) = false := decide_eq_false (by omega)
      have hd2 : decide ((n : Int) > 50) = false := decide_eq_false (by omega)
      have HTW := Lib.hid (twins_any S _ ls w3 (HCL.out w3 B3.out) (fun k hk => Nat.lt_of_lt_of_le (HS.out k hk) B3.out.size) (HE.out.on B3.out) (by have := HN.out; omega) HLL.out)
      have HFEW : Hid (n ≤ 50) := Lib.hid (by omega)
      clear hfew
      go_wp2_with fail
      refine HTW.out.mono ?_
      rintro e w4 ⟨t, rfl, hb4, _⟩
      have O4 : Hid (OnceI w w4 bp bf 0) := Lib.hid (by
        obtain ⟨F, T, s, all, q1, q2, q3⟩ := O3.out
        exact ⟨F, T, s, all, q1.beside hb4, q2, q3⟩)
      have B4 := Lib.hid (B3.out.trans (hb4.mono B3.out.size))
      clear hb4 HTW
      cases t with
      | true =>
        go_wp2_with fail
        go_ret
        exact ⟨rfl, B4.out⟩
      | false =>
        go_wp2_with fail
        go_loopw [51] (fun s51 wr => ∃ i : Nat, i ≤ n ∧ s51 = .int .i64 (i : Int) ∧ OnceI w wr bp bf i) (fun s51 _ => n - (intOf s51).toNat)
        case atStart => exact ⟨0, by omega, rfl, O4.out⟩
        case round =>
          obtain ⟨i, hi, rfl, hO⟩ := hrel
          obtain ⟨F, T, s, all, g, hst, hone⟩ := hO
          have G := Lib.hid g
          have HST := Lib.hid hst
          have HONE := Lib.hid hone
          have BR := Lib.hid g.fs.below
          clear g hst hone
          by_cases hlt : i < n
          · have hdi : decide ((i : Int) < (n : Int)) = true := decide_eq_true (by omega)
            have hdi2 : decide (i < n) = true := decide_eq_true hlt
            have hlen := HN.out
            obtain ⟨d, hd⟩ : ∃ d, ls[i]? = some d := ⟨_, List.getElem?_eq_getElem (by omega)⟩
            obtain ⟨xa, rfl, hcell⟩ : ∃ xa, a = some xa ∧ ∃ vd, wr.cell? (xa.add i) = some vd ∧ BytesC S wr vd d := by
              rcases HCL.out wr BR.out with ⟨_, h2⟩ | ⟨x, cap, h1, _, _, _, h5⟩
              · rw [h2] at hlen; simp at hlen; omega
              · injection h1 with h1 _ _
                exact ⟨x, h1, h5 i d hd⟩
            obtain ⟨vd, e1, e2⟩ := hcell
            obtain ⟨da, dc, rfl⟩ := e2.shape
            obtain ⟨dl, hdl⟩ : ∃ dl, d.length = dl := ⟨_, rfl⟩
            rw [hdl] at e1 e2
            have HDC := Lib.hid e2
            have HDB : Hid (∀ W, Below w.heap.size w W → BytesC S W (.slice da dl dc) d) := Lib.hid (fun W hW => e2.kept (fun k hk => ⟨hk, by
              have h1 := hW.block k (HS.out k hk)
              have h2 := BR.out.block k (HS.out k hk)
              rw [h1, h2]⟩))
            have HC1 := Lib.hid (count_any G.out)
            obtain ⟨m, hm⟩ : ∃ m, (idsOf all).length = m := ⟨_, rfl⟩
            have HM := Lib.hid hm
            rw [hm] at HC1
            obtain ⟨z, hz⟩ : ∃ z, (framesL all).length = z := ⟨_, rfl⟩
            have HZ := Lib.hid hz
            clear hlen hd e2 hdl hm hz
            go_wp2_with fail
            refine HC1.out.mono ?_
            rintro e w5 ⟨q1, q2, rfl, hb5⟩
            have G5 := Lib.hid (G.out.beside hb5)
            have HSZ := psize_any G5.out
            rw [HZ.out] at HSZ
            have HSS := Lib.hid HSZ
            clear hb5 HC1 HSZ e1
            go_wp2_with fail
            refine HSS.out.mono ?_
            rintro e w6 ⟨rfl, hb6⟩
            have G6 := Lib.hid (G5.out.beside hb6)
            have HAD := add_any G6.out (HE.out.on G6.out.fs.below) (by have := HST.out; have := HFEW.out; omega) S _ d (HDB.out w6 G6.out.fs.below) (fun k hk => Nat.lt_of_lt_of_le (HS.out k hk) G6.out.fs.below.size)
            have HON2 := HONE.out.add all d
            generalize hR : addR s [112] all d = R at HAD HON2
            obtain ⟨s7, all7, X, cc⟩ := R
            dsimp only at HAD HON2
            have HADD := Lib.hid HAD
            have HR := Lib.hid hR
            have HO7 := Lib.hid HON2
            clear hb6 HSS HAD hR HON2 G5
            go_wp2_with fail
            refine HADD.out.mono ?_
            rintro e w7 ⟨rfl, hz7, _, T7, g7, _⟩
            have G7 := Lib.hid g7
            have hX32 : X.length = 32 := addR_32 HR.out
            have H32 := Lib.hid hX32
            have zx : (bv X).length = n32 := by rw [bv_len, hX32]; rfl
            have zz : (bv zeros).length = n32 := rfl
            have hn8 := IDAt.new w7
            have c8 := hn8.write (l := X) hX32
            have J8 := Lib.hid (hn8.put hX32)
            have B8 := Lib.hid (below_setRow ((Below.refl w7.heap.size w7).alloc (Nat.le_refl _) (.cells (bv zeros).toArray 44)) (Nat.le_refl _) (bv X).toArray)
            have hz8 : ((w7.alloc (.cells (bv zeros).toArray 44)).setRow w7.heap.size (bv X).toArray).heap.size = w7.heap.size + 1 := by simp [World.setRow]
            have HT7 : Hid (∀ k, T7 k → k < w7.heap.size) := Lib.hid (fun k hk => g7.fs.lt k (g7.sub k hk).1)
            clear hX32 hn8 g7 HADD G6
            go_upto_region 14 with fail
            generalize (w7.alloc (.cells (bv zeros).toArray 44)).setRow w7.heap.size (bv X).toArray = w8 at *
            clear c8
            have G8 := Lib.hid (G7.out.more (F' := fun k => (F k ∨ T7 k) ∨ k = w7.heap.size) B8.out (fun k hk => by
              rcases hk with hk | rfl
              · exact Or.inl hk
              · exact Or.inr ⟨Nat.le_refl _, by omega⟩) (fun k hk => Or.inl hk))
            have c8 := J8.out.cells
            by_cases hcc : cc = 0
            · subst hcc
              have HGD := Lib.hid (addR_good HR.out)
              have HC2 := Lib.hid (count_any G8.out)
              obtain ⟨m2, hm2⟩ : ∃ m2, (idsOf all7).length = m2 := ⟨_, rfl⟩
              have HM2 := Lib.hid hm2
              rw [hm2] at HC2
              obtain ⟨z2, hz2⟩ : ∃ z2, (framesL all7).length = z2 := ⟨_, rfl⟩
              have HZ2 := Lib.hid hz2
              clear hm2 hz2
              go_wp2_with fail
              refine HC2.out.mono ?_
              rintro e w9 ⟨q3, q4, rfl, hb9⟩
              have G9 := Lib.hid (G8.out.beside hb9)
              have J9 := Lib.hid (J8.out.kept (hb9.block _ (by omega)))
              have hl9 := hb9.size
              have HSZ := psize_any G9.out
              rw [HZ2.out] at HSZ
              have HSS := Lib.hid HSZ
              clear hb9 HC2 HSZ c8
              go_wp2_with fail
              refine HSS.out.mono ?_
              rintro e wa ⟨rfl, hba⟩
              have GA := Lib.hid (G9.out.beside hba)
              have JA := Lib.hid (J9.out.kept (hba.block _ (by omega)))
              have hla := hba.size
              have HAD := add_any GA.out (HE.out.on GA.out.fs.below) (by have := HST.out; have := HFEW.out; have := HO7.out.2; omega) S _ d (HDB.out wa GA.out.fs.below) (fun k hk => Nat.lt_of_lt_of_le (HS.out k hk) GA.out.fs.below.size)
              rw [HGD.out.2.2] at HAD
              have HADD := Lib.hid HAD
              clear hba HSS HAD G9 J9
              go_wp2_with fail
              refine HADD.out.mono ?_
              rintro e wb ⟨rfl, hzb, hkb, Tb, gb, hTb⟩
              have GB := Lib.hid gb
              have JB := Lib.hid (JA.out.kept (hkb _ (Or.inr rfl) (fun h => by have := HT7.out _ h; omega)))
              have hnb := IDAt.new wb
              have cb := hnb.write (l := X) H32.out
              have JC2 := Lib.hid (hnb.put H32.out)
              have BC := Lib.hid (below_setRow ((Below.refl wb.heap.size wb).alloc (Nat.le_refl _) (.cells (bv zeros).toArray 44)) (Nat.le_refl _) (bv X).toArray)
              have hzc : ((wb.alloc (.cells (bv zeros).toArray 44)).setRow wb.heap.size (bv X).toArray).heap.size = wb.heap.size + 1 := by simp [World.setRow]
              have hlb : w7.heap.size < wb.heap.size := by omega
              clear hnb gb hTb hkb HADD GA JA
              go_upto_region 19 with fail
              have JC1 := Lib.hid (JB.out.kept (BC.out.block _ hlb))
              generalize (wb.alloc (.cells (bv zeros).toArray 44)).setRow wb.heap.size (bv X).toArray = wc at *
              clear cb
              have GC := Lib.hid (GB.out.beside BC.out)
              have HG := get_any GC.out (HE.out.on GC.out.fs.below) X H32.out
              rw [HGD.out.2.1] at HG
              have HGG := Lib.hid HG
              have k1 := JC1.out.cells
              clear HG
              go_wp2_with fail
              refine HGG.out.mono ?_
              rintro e wd ⟨hbd, vg, rfl, hog⟩
              obtain ⟨ga, gc, rfl⟩ := own_slice hog
              have hld := hbd.size
              have GD := Lib.hid (GC.out.beside hbd)
              have JD1 := JC1.out.kept (hbd.block _ (by omega))
              have JD2 := JC2.out.kept (hbd.block _ (by omega))
              have k2 := JD1.cells
              have k3 := JD2.cells
              have hcv1 := bytes_str (own_c hog)
              have hcv2 := bytes_str (HDB.out wd GD.out.fs.below)
              have hneq : ∀ W, (binOp .neq 44 (.agg (bv X).toArray) (.agg (bv X).toArray)).run Tryd.prog W = .ok (.bool false) W := fun W => by have h := id_neq W H32.out H32.out; simpa using h
              have hbe : (d == d) = true := beq_self_eq_true d
              have HC3 := count_any GD.out
              rw [HM2.out] at HC3
              have HC4 := Lib.hid HC3
              clear hbd hog HGG JD1 JD2 k1 HC3 GC
              go_wp2_with fail
              refine HC4.out.mono ?_
              rintro e we ⟨q5, q6, rfl, hbe2⟩
              have GE := Lib.hid (GD.out.beside hbe2)
              have HSZ := psize_any GE.out
              rw [HZ2.out] at HSZ
              have HSS := Lib.hid HSZ
              clear hbe2 HC4 HSZ k2 k3 hcv1 hcv2 GD
              go_wp2_with fail
              refine HSS.out.mono ?_
              rintro e wf ⟨rfl, hbf⟩
              have GF := Lib.hid (GE.out.beside hbf)
              have HU := g_used GF.out.fs
              rw [HO7.out.1.used GF.out.read, HZ2.out] at HU
              have HUU := Lib.hid HU
              clear hbf HSS HU GE
              go_wp2_with fail
              refine HUU.out.mono ?_
              rintro e wg ⟨rfl, rfl⟩
              go_wp2_with fail
              go_roundw
              case rel => exact ⟨i + 1, by omega, by go_num, _, _, _, _, GF.out, by have := HO7.out.2; have := HST.out; omega, HO7.out.1⟩
              case measure => simp only [intOf]; omega
            · have hcb : (cc == 0) = false := by rw [beq_eq_false_iff_ne]; exact hcc
              have HBD := Lib.hid (addR_bad HR.out hcc)
              have hca := count_any G8.out
              rw [HBD.out.1, HM.out] at hca
              have HC2 := Lib.hid hca
              clear hcc hca
              go_wp2_with fail
              refine HC2.out.mono ?_
              rintro e w9 ⟨q3, q4, rfl, hb9⟩
              have G9 := Lib.hid (G8.out.beside hb9)
              have J9 := J8.out.kept (hb9.block _ (by omega))
              have hl9 := hb9.size
              have HSZ := psize_any G9.out
              rw [HBD.out.1, HZ.out] at HSZ
              have HSS := Lib.hid HSZ
              have J9H := Lib.hid J9
              clear hb9 HC2 HSZ c8 J9
              go_wp2_with fail
              refine HSS.out.mono ?_
              rintro e wa ⟨rfl, hba⟩
              have GA := Lib.hid (G9.out.beside hba)
              have JA := J9H.out.kept (hba.block _ (by omega))
              have k1 := JA.cells
              have hneq : ∀ W, (binOp .neq 44 (.agg (bv X).toArray) (.agg (bv zeros).toArray)).run Tryd.prog W = .ok (.bool false) W := fun W => by have h := id_neq W H32.out (show zeros.length = 32 from rfl); rw [HBD.out.2]; rw [HBD.out.2] at h; simpa using h
              clear hba HSS JA G9
              go_wp2_with fail
              go_roundw
              case rel => exact ⟨i + 1, by omega, by go_num, _, _, _, _, GA.out, by have := HO7.out.2; have := HST.out; omega, HO7.out.1⟩
              case measure => simp only [intOf]; omega
          · have hdi : decide ((i : Int) < (n : Int)) = false := decide_eq_false (by omega)
            have hdi2 : decide (i < n) = false := decide_eq_false hlt
            go_wp2_with fail
            go_ret
            exact ⟨rfl, BR.out⟩
end Go.Proofs.YtgknihcpmpfocaaDoor
