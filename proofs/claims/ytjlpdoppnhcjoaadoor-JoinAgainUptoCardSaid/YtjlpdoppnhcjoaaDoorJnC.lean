/- The files of a snapshot: Check. -/
import Derived.Test.YtjlpdoppnhcjoaaDoorJnB
namespace Go.Proofs.YtjlpdoppnhcjoaaDoor
open Go.RowKit Go.Lib
theorem RF.write {w : World} {b n : Nat} {t : TypeId} {F G : Nat → Value} (h : RF w b t n F) (h1 : OneC n G) : (storeCells ⟨b, 0, none⟩ (rowL n G)).run Tryd.prog w = .ok () (w.setRow b (rowL n G).toArray) := by
  have := run_storeCells_from (P := Tryd.prog) b t (rowL n G) 0 (rowL n F).toArray w h.blk (by rw [rowL_len, List.size_toArray, rowL_len]; omega) (rowL_one h1)
  simpa using this
theorem RF.put {w : World} {b n : Nat} {t : TypeId} {F : Nat → Value} (h : RF w b t n F) (G : Nat → Value) : RF (w.setRow b (rowL n G).toArray) b t n G := ⟨setRow_heap w b _ _ _ _ h.blk⟩
/-- Cells loaded from anywhere. -/
theorem load_row (w : World) (b o n : Nat) (F : Nat → Value) (h : ∀ j, j < n → w.cell? ⟨b, o + j, none⟩ = some (F j)) : (loadCellsFrom ⟨b, o, none⟩ 0 n #[]).run Tryd.prog w = .ok (rowL n F).toArray w := by
  have := run_loadCells_list (P := Tryd.prog) w ⟨b, o, none⟩ (rowL n F) (fun j v hv => by
    have hj : j < n := by
      have := (List.getElem?_eq_some_iff.1 hv).1
      rw [rowL_len] at this; exact this
    rw [rowL_at _ hj] at hv
    rw [Addr.add_mid, ← hv]
    exact h j hj)
  rw [rowL_len] at this
  simpa [loadCells] using this
/-- A file of a snapshot. -/
structure FileN where
  path : List UInt8
  id : Nat → UInt8
  stamp : Nat
def fileF (f : FileN) (k : Nat) : Value := if k = 0 then .string ⟨f.path.toArray⟩ else if k < 33 then .int .u8 ((f.id (k - 1)).toNat : Int) else .float .f64 f.stamp
theorem file_one (f : FileN) (n : Nat) : OneC n (fileF f) := fun k _ => by
  unfold fileF
  split
  · rfl
  · split <;> rfl
def noFile : FileN := ⟨[], fun _ => 0, 0⟩
theorem file_size (w : World) : (sizeOf 44).run Tryd.prog w = .ok n34 w := by rw [Tryd.sizeOf44]; rfl
theorem file_zero (w : World) : (zeroValue 44).run Tryd.prog w = .ok (.agg (rowL n34 (fileF noFile)).toArray) w := by rw [Tryd.zeroValue44]; kernel_rfl
attribute [local simp high] file_size file_zero
def fileRel (_ : Nat → Prop) (_ : World) (f : FileN) (cs : List Value) : Prop := cs = rowL n34 (fileF f)
theorem file_keeps : Keeps fileRel := fun _ _ _ _ _ _ h _ => h
abbrev FilesC := RowsC fileRel n34
/-- One file in memory. -/
theorem FilesC.at {S : Nat → Prop} {w : World} {a : Option Addr} {c : Nat} {l : List FileN} (h : FilesC S w (.slice a l.length c) l) (hn : 0 < l.length) :
    ∃ g o, a = some ⟨g, o, none⟩ ∧ S g ∧ l.length ≤ c ∧ c ≤ 9223372036854775807 ∧ ∀ i, i < l.length → ∀ k, k < 34 → w.cell? ⟨g, o + i * n34 + k, none⟩ = some (fileF (l.getD i noFile) k) := by
  obtain ⟨g, o, h1, h2, h3, h4, h5⟩ := RowsC.at h hn
  refine ⟨g, o, h1, h2, h3, h4, fun i hi k hk => ?_⟩
  have he : l[i]? = some (l.getD i noFile) := by simp [List.getD, hi]
  obtain ⟨cs, _, h7, h8⟩ := h5 i _ he
  obtain rfl : cs = _ := h7
  rw [Nat.add_assoc]
  exact h8 k _ (rowL_at _ (by unfold n34; exact hk))
def pathAt (l : List FileN) (i : Nat) : List UInt8 := (l.getD i noFile).path
/-- The fault at a file; 0: none. -/
def faultAt (l : List FileN) (i : Nat) : Int := if checkN (pathAt l i) ≠ 0 then checkN (pathAt l i) else if i = 0 then 0 else if cmpP (pathAt l i) (pathAt l (i - 1)) ≤ 0 then 92 else if underB (pathAt l i) (pathAt l (i - 1)) = true then 110 else 0
def firstF (f : Nat → Int) : Nat → Nat → Int
  | 0, _ => 0
  | n + 1, i => if f i ≠ 0 then f i else firstF f n (i + 1)
theorem firstF_step {f : Nat → Int} {n i : Nat} (h : f i = 0) : firstF f (n + 1) i = firstF f n (i + 1) := by rw [firstF, if_neg (fun x => x h)]
theorem firstF_here {f : Nat → Int} {n i : Nat} (h : f i ≠ 0) : firstF f (n + 1) i = f i := by rw [firstF, if_pos h]
def filesN (l : List FileN) : Int := if 256 < l.length then 2 else firstF (faultAt l) l.length 0
set_option maxRecDepth 100000 in
set_option maxHeartbeats 4000000 in
theorem fcheck_any (S : Nat → Prop) (v : Value) (l : List FileN) (w : World) (hS : ∀ k, S k → k < w.heap.size) (hv : FilesC S w v l) (hT : ∀ f ∈ l, f.path.length ≤ 4194304) (hE : PEnv w) :
    Calls Tryd.prog 9 #[v] w fun e w' => e = .returned (.int .i64 (filesN l)) ∧ Below w.heap.size w w' := by
  obtain ⟨la, lc, rfl⟩ := RowsC.shape hv
  unfold filesN
  by_cases hl : 256 < l.length
  · rw [if_pos hl]
    go_enter Tryd.func9, Tryd.ntmps9
    go_wp2_with fail
    go_ret
    exact ⟨rfl, Below.refl _ _⟩
  rw [if_neg hl]
  obtain ⟨R, hR⟩ : ∃ R, firstF (faultAt l) l.length 0 = R := ⟨_, rfl⟩
  have HR : Hid (firstF (faultAt l) (l.length - 0) 0 = R) := Lib.hid hR
  rw [hR]
  have HV := Lib.hid (fun (W : World) (hb : Below w.heap.size w W) => RowsC.kept file_keeps hv (S' := S) (w' := W) (fun k hk => ⟨hk, hb.block k (hS k hk)⟩))
  have HSS := Lib.hid hS
  have HT := Lib.hid hT
  have HE := Lib.hid hE
  clear hv hR hE hT hS
  go_enter Tryd.func9, Tryd.ntmps9
  go_wp2_with fail
  go_loopw [12] (fun i wr => ∃ k : Nat, k ≤ l.length ∧ i = .int .i64 (k : Int) ∧ Hid (firstF (faultAt l) (l.length - k) k = R) ∧ Hid (Below w.heap.size w wr)) (fun i _ => l.length - (intOf i).toNat)
  case atStart => exact ⟨0, Nat.zero_le _, rfl, HR, Lib.hid (Below.refl _ _)⟩
  case round =>
    obtain ⟨k, hk, rfl, hE2, hB⟩ := hrel
    by_cases hlt : k < l.length
    · obtain ⟨g, o, rfl, hSg, _, hc2, hat⟩ := FilesC.at (HV.out wr hB.out) (by omega)
      have hg : g < wr.heap.size := Nat.lt_of_lt_of_le (HSS.out g hSg) hB.out.size
      have HFK : Hid (pathAt l k = (l.getD k noFile).path) := Lib.hid rfl
      have HFM : Hid ((l.getD k noFile).path.length ≤ 4194304) := Lib.hid (HT.out _ (by simp [List.getD, hlt]))
      have HFP : Hid (∀ p, p < k → ∀ W, Below wr.heap.size wr W → W.cell? ⟨g, o + p * n34, none⟩ = some (.string ⟨(pathAt l p).toArray⟩) ∧ (pathAt l p).length ≤ 4194304) := Lib.hid (fun p hp W hW => by
        have h := hat p (by omega) 0 (by omega)
        rw [Nat.add_zero] at h
        exact ⟨(World.cell?_of_block (w := wr) (hW.block g hg)).trans h, HT.out _ (by simp [List.getD, show p < l.length by omega])⟩)
      have hck := fun j (hj : j < n34) => hat k hlt j (by unfold n34 at hj; exact hj)
      clear hat
      generalize l.getD k noFile = f at *
      have c1 := load_row wr g (o + k * n34) n34 (fileF f) hck
      have i1 := RF.new wr 44 n34 (fileF noFile)
      have c2 := i1.write (file_one f n34)
      have HI := Lib.hid (i1.put (fileF f))
      have HW := Lib.hid (below_setRow ((Below.refl wr.heap.size wr).alloc (Nat.le_refl _) (.cells (rowL n34 (fileF noFile)).toArray 44)) (Nat.le_refl _) (rowL n34 (fileF f)).toArray)
      have hol := rowL_len n34 (fileF f)
      have hol2 := rowL_len n34 (fileF noFile)
      clear hck i1
      go_upto_region 6 with fail
      clear c1 c2 hol hol2
      generalize (wr.alloc (.cells (rowL n34 (fileF noFile)).toArray 44)).setRow wr.heap.size (rowL n34 (fileF f)).toArray = w5 at *
      obtain ⟨fb, hfb⟩ : ∃ fb, wr.heap.size = fb := ⟨_, rfl⟩
      rw [hfb] at HI ⊢
      have c0 : w5.cell? ⟨fb, 0, none⟩ = some (.string ⟨f.path.toArray⟩) := HI.out.cell (k := 0) (by unfold n34; omega)
      have HB5 : Hid (Below w.heap.size w w5) := Lib.hid (hB.out.trans (HW.out.mono hB.out.size))
      have hfl := HI.out.lt
      have HFL := Lib.hid hfl
      have HCK := Lib.hid (check_any f.path w5 HFM.out (HE.out.on HB5.out))
      obtain ⟨ck, hck⟩ : ∃ c, checkN f.path = c := ⟨_, rfl⟩
      rw [hck] at HCK
      have HCE : Hid (checkN (pathAt l k) = ck) := Lib.hid (by rw [HFK.out]; exact hck)
      clear hck hfb hfl
      go_wp2_with fail
      refine HCK.out.mono ?_
      rintro e w6 ⟨rfl, hb6⟩
      have HB6 : Hid (Below w.heap.size w w6) := Lib.hid (HB5.out.trans (hb6.mono HB5.out.size))
      have HW6 : Hid (Below wr.heap.size wr w6) := Lib.hid (HW.out.trans (hb6.mono HW.out.size))
      have c6 : w6.cell? ⟨fb, 0, none⟩ = some (.string ⟨f.path.toArray⟩) := (World.cell?_of_block (w := w5) (hb6.block fb HFL.out)).trans c0
      clear hb6 c0 HCK
      have HRS : Hid (R = if faultAt l k ≠ 0 then faultAt l k else firstF (faultAt l) (l.length - (k + 1)) (k + 1)) := Lib.hid (by
        rw [← hE2.out, show l.length - k = (l.length - (k + 1)) + 1 by omega]; rfl)
      have HFA : Hid (faultAt l k = if ck ≠ 0 then ck else if k = 0 then 0 else if cmpP f.path (pathAt l (k - 1)) ≤ 0 then 92 else if underB f.path (pathAt l (k - 1)) = true then 110 else 0) := Lib.hid (by unfold faultAt; rw [HCE.out, HFK.out])
      clear hE2
      by_cases hc0 : ck = 0
      · subst hc0
        by_cases hk0 : k = 0
        · have HRE : Hid (firstF (faultAt l) (l.length - (k + 1)) (k + 1) = R) := Lib.hid (by
            have h0 : faultAt l k = 0 := by rw [HFA.out, if_neg (by simp), if_pos hk0]
            rw [HRS.out, h0, if_neg (by simp)])
          have g0 : ((k : Int) == 0) = true := by rw [hk0]; rfl
          go_wp2_with fail
          go_roundw
          case rel => exact ⟨k + 1, by omega, by go_num, HRE, HB6⟩
          case measure => simp [intOf]; omega
        · have g0 : ((k : Int) == 0) = false := by rw [beq_eq_false_iff_ne]; omega
          obtain ⟨p, hp⟩ : ∃ p, k = p + 1 := ⟨k - 1, by omega⟩
          have hpi : (k : Int) - 1 = (p : Int) := by omega
          have hpw : IntKind.i64.wrap ((k : Int) - 1) = (p : Int) := by rw [hpi]; exact IntWalk.i64_in _ (by omega)
          have hpl : p < k := by omega
          obtain ⟨c7, hpm⟩ := HFP.out p hpl w6 HW6.out
          have hpk : k - 1 = p := by omega
          rw [hpk] at HFA
          have HCM := Lib.hid (compare_any f.path (pathAt l p) w6 (by have := HFM.out; omega) (by omega))
          have HUN := Lib.hid (under_any f.path (pathAt l p))
          generalize pathAt l p = q at *
          obtain ⟨cm, hcm⟩ : ∃ c, cmpP f.path q = c := ⟨_, rfl⟩
          rw [hcm] at HFA HCM
          obtain ⟨ub, hub⟩ : ∃ b, underB f.path q = b := ⟨_, rfl⟩
          rw [hub] at HFA HUN
          clear hpk hcm hub hp
          have HK0 := Lib.hid hk0
          go_wp2_with fail
          refine HCM.out.mono ?_
          rintro e w7 ⟨rfl, n7, rfl⟩
          have HB7 : Hid (Below w.heap.size w (w6.drewN n7)) := Lib.hid (HB6.out.trans ((drewn _ _ _).mono HB6.out.size))
          have c8 : (w6.drewN n7).cell? ⟨fb, 0, none⟩ = some (.string ⟨f.path.toArray⟩) := c6
          clear c6 c7 HCM
          generalize w6.drewN n7 = w7 at *
          by_cases hcm : cm ≤ 0
          · have HRE : Hid (R = 92) := Lib.hid (by
              have h0 : faultAt l k = 92 := by rw [HFA.out, if_neg (by simp), if_neg HK0.out, if_pos hcm]
              rw [HRS.out, h0, if_pos (by simp)])
            go_wp2_with fail
            go_ret
            exact ⟨by rw [HRE.out]; rfl, HB7.out⟩
          · have HCM2 := Lib.hid hcm
            go_wp2_with fail
            refine (HUN.out _).mono ?_
            rintro e w8 ⟨rfl, rfl⟩
            cases ub
            · have HRE : Hid (firstF (faultAt l) (l.length - (k + 1)) (k + 1) = R) := Lib.hid (by
                have h0 : faultAt l k = 0 := by rw [HFA.out, if_neg (by simp), if_neg HK0.out, if_neg (show ¬ cm ≤ 0 by have := HCM2.out; omega), if_neg (by simp)]
                rw [HRS.out, h0, if_neg (by simp)])
              go_wp2_with fail
              go_roundw
              case rel => exact ⟨k + 1, by omega, by go_num, HRE, HB7⟩
              case measure => simp [intOf]; omega
            · have HRE : Hid (R = 110) := Lib.hid (by
                have h0 : faultAt l k = 110 := by rw [HFA.out, if_neg (by simp), if_neg HK0.out, if_neg (show ¬ cm ≤ 0 by have := HCM2.out; omega), if_pos rfl]
                rw [HRS.out, h0, if_pos (by simp)])
              go_wp2_with fail
              go_ret
              exact ⟨by rw [HRE.out]; rfl, HB7.out⟩
      · have HRE : Hid (R = ck) := Lib.hid (by rw [HRS.out, HFA.out, if_pos hc0, if_pos hc0])
        have g0 : (ck == 0) = false := by rw [beq_eq_false_iff_ne]; exact hc0
        have g1 : (ck != 0) = true := by rw [bne, g0]; rfl
        go_wp2_with fail
        go_ret
        exact ⟨by rw [HRE.out]; rfl, HB6.out⟩
    · have HRE : Hid (R = 0) := Lib.hid (by rw [← hE2.out, show l.length - k = 0 by omega]; rfl)
      go_wp2_with fail
      go_ret
      exact ⟨by rw [HRE.out]; rfl, hB.out⟩
end Go.Proofs.YtjlpdoppnhcjoaaDoor
