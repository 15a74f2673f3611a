/- The laws' awake: a pack that is made, crashed and opened again. -/
import Derived.Test.YtgknihcpmpfocaaDoorPkT
namespace Go.Proofs.YtgknihcpmpfocaaDoor
open Go.RowKit Go.Maps
attribute [local simp high] id_size id_zero
def pa : List UInt8 := [97, 98, 99]
def px : List UInt8 := [120, 121, 122]
def pw1 : Fs := (createS (newS 1000) [112]).1
def pw2 : Fs := (flushS pw1).1
def pw3 : Fs := (appendS pw2 [112] (frameL pa)).1
def pw4 : Fs := (syncS pw3 [112]).1
def pw5 : Fs := (appendS pw4 [112] (frameL px)).1
def pw6 : Fs := crashS pw5 0 5
def pw7 : Fs := (cutS pw6 [112] 15).1
theorem pw_codes : (createS (newS 1000) [112]).2 = 0 ∧ (flushS pw1).2 = 0 ∧ (appendS pw2 [112] (frameL pa)).2 = 0 ∧ (syncS pw3 [112]).2 = 0 ∧ (appendS pw4 [112] (frameL px)).2 = 0 ∧ (cutS pw6 [112] 15).2 = 0 := by decide +kernel
theorem pw_reads : readS pw2 [112] = ([], 0) ∧ readS pw6 [112] = (frameL pa ++ (frameL px).take 5, 0) ∧ (frameL pa).length = 15 ∧ sumN pa ≠ sumN px := by decide +kernel
theorem pw_steps : pw1.steps ≤ 16777214 ∧ pw2.steps ≤ 16777214 ∧ pw3.steps ≤ 16777214 ∧ pw4.steps ≤ 16777214 ∧ pw5.steps ≤ 16777214 ∧ pw6.steps ≤ 16777214 := by decide +kernel
theorem pw_scan : scanL (frameL pa ++ (frameL px).take 5) = [pa] ∧ endL (frameL pa ++ (frameL px).take 5) = 15 := by
  have h : scanL (frameL pa ++ (frameL px).take 5) = [pa] := by
    rw [scanL_frame (by decide), scanL_none]
    unfold firstN
    rw [if_pos]
    rw [List.length_take]
    omega
  refine ⟨h, ?_⟩
  unfold endL
  rw [h]
  show (frameL pa ++ []).length = 15
  rw [List.append_nil]
  exact pw_reads.2.2.1
theorem pw_add1 : addR pw2 [112] [] pa = (pw3, [pa], sumN pa, 0) := by
  unfold addR
  rw [if_neg (by decide)]
  show (if (appendS pw2 [112] (frameL pa)).2 = 0 then _ else _) = _
  rw [if_pos pw_codes.2.2.1]
  rfl
theorem pw_add2 : addR pw4 [112] [pa] px = (pw5, [pa, px], sumN px, 0) := by
  have hf : firstR [pa] (sumN px) = none := by
    unfold firstR
    rw [if_neg pw_reads.2.2.2]
    rfl
  unfold addR
  rw [if_neg (by decide), hf]
  show (if (appendS pw4 [112] (frameL px)).2 = 0 then _ else _) = _
  rw [if_pos pw_codes.2.2.2.2.1]
  rfl
theorem pw_open : openR pw6 [112] = (pw7, some [pa], 0) := by
  unfold openR
  rw [pw_reads.2.1]
  dsimp only
  rw [if_pos rfl, pw_scan.2, pw_scan.1, if_pos (by rw [List.length_append, pw_reads.2.2.1, List.length_take]; unfold px; rw [frameL_len]; simp)]
  have h : (cutS pw6 [112] ((15 : Nat) : Int)).2 = 0 := pw_codes.2.2.2.2.2
  rw [if_pos h]
  rfl
theorem flushS_read (s : Fs) (x : Nm) : readS (flushS s).1 x = readS s x := by
  unfold flushS
  split
  · rfl
  · rfl
theorem FsG.less {w0 w : World} {F F' : Nat → Prop} {bf : Nat} {s : Fs} (g : FsG w0 F w bf s) (h : ∀ k, F' k → F k) : FsG w0 F' w bf s := by
  obtain ⟨X, h1, h2⟩ := g.ex
  exact ⟨⟨X, h1, fun k hk => h2 k (h k hk)⟩, g.below, g.ok⟩
set_option maxRecDepth 100000 in
set_option maxHeartbeats 4000000 in
theorem awake_any (w : World) (hE : Env w) (hP : PEnv w) : Calls Tryd.prog 6 #[] w fun e w' => e = .returned (.bool true) ∧ Below w.heap.size w w' := by
  have HE := Lib.hid hE
  have HP := Lib.hid hP
  have HN := Lib.hid (g_new (Below.refl w.heap.size w) 1000 (by omega))
  have kc := fun (w : World) (C : Array Value) (n c : Nat) => Lib.run_convert_bytes_const (P := Tryd.prog) w 22 5 C n c Tryd.underlying22 Tryd.underlying5
  have zz : (bv zeros).length = n32 := rfl
  clear hE hP
  go_enter Tryd.func6, Tryd.ntmps6
  go_wp2_with fail
  refine HN.out.mono ?_
  rintro e w1 ⟨bf, rfl, g1, _⟩
  have G1 : Hid (FsG w (fun _ => False) w1 bf (newS 1000)) := Lib.hid (g1.less (fun _ h => h.elim))
  clear g1 HN
  have HC := Lib.hid (pcreate_any G1.out (Nat.zero_le _) HP.out [112] (by decide))
  go_wp2_with fail
  refine HC.out.mono ?_
  rintro e w2 ⟨_, _, h2⟩
  rcases h2 with ⟨h2, _⟩ | ⟨_, bp, T2, rfl, g2, _⟩
  · exact absurd pw_codes.1 h2
  have G2 : Hid (PkG w _ T2 w2 bp bf pw1 [112] []) := Lib.hid g2
  clear g2 HC G1
  have HC := g_flush G2.out.fs pw_steps.1
  rw [pw_codes.2.1] at HC
  have HCC := Lib.hid HC
  clear HC
  go_wp2_with fail
  refine HCC.out.mono ?_
  rintro e w3 ⟨rfl, g3, _, k3⟩
  have G3 : Hid (PkG w _ T2 w3 bp bf pw2 [112] []) := Lib.hid (G2.out.after g3 k3 pw_reads.1)
  clear g3 k3 HCC G2
  have hal := (Below.refl w3.heap.size w3).alloc (Nat.le_refl _) (.cells #[.int .u8 97, .int .u8 98, .int .u8 99] 5 (3, 4))
  have BL : BytesC (fun k => w3.heap.size ≤ k ∧ k < w3.heap.size + 1) (w3.alloc (.cells #[.int .u8 97, .int .u8 98, .int .u8 99] 5 (3, 4))) (.slice (some ⟨w3.heap.size, 0, none⟩) 3 3) pa := bytes_lit w3 pa (3, 4) (by decide)
  have HA := add_short (G3.out.beside hal) ((HE.out.on G3.out.fs.below).on hal) pw_steps.2.1 _ _ pa BL (fun k hk => by simp; omega) (by decide)
  rw [pw_add1] at HA
  have HAA := Lib.hid HA
  clear HA hal BL
  go_wp2_with fail
  refine HAA.out.mono ?_
  rintro e w4 ⟨rfl, hz4, _, T4, g4, _⟩
  have G4 := Lib.hid g4
  obtain ⟨X, hX⟩ : ∃ X, sumN pa = X := ⟨_, rfl⟩
  have HX := Lib.hid hX
  have hX32 : X.length = 32 := by rw [← hX]; exact sumN_len _
  have H32 := Lib.hid hX32
  have zx : (bv X).length = n32 := by rw [bv_len, hX32]; rfl
  rw [hX]
  have hn5 := IDAt.new w4
  have c5 := hn5.write (l := X) hX32
  have J5 := Lib.hid (hn5.put hX32)
  have B5 := Lib.hid (below_setRow ((Below.refl w4.heap.size w4).alloc (Nat.le_refl _) (.cells (bv zeros).toArray 44)) (Nat.le_refl _) (bv X).toArray)
  have hz5 : ((w4.alloc (.cells (bv zeros).toArray 44)).setRow w4.heap.size (bv X).toArray).heap.size = w4.heap.size + 1 := by simp [World.setRow]
  have hT4 : ∀ k, T4 k → k < w4.heap.size := fun k hk => g4.fs.lt k (g4.sub k hk).1
  have HT4 := Lib.hid hT4
  clear hT4 hX hX32 hn5 g4 HAA G3
  go_upto_region 8 with fail
  generalize (w4.alloc (.cells (bv zeros).toArray 44)).setRow w4.heap.size (bv X).toArray = w5 at *
  clear c5
  have G5 := Lib.hid (G4.out.more (F' := fun k => (((fun _ => False) k ∨ T2 k) ∨ T4 k) ∨ k = w4.heap.size) B5.out (fun k hk => by
    rcases hk with hk | rfl
    · exact Or.inl hk
    · exact Or.inr ⟨Nat.le_refl _, by omega⟩) (fun k hk => Or.inl hk))
  have HS := Lib.hid (psync_any G5.out pw_steps.2.2.1)
  rw [pw_codes.2.2.2.1] at HS
  go_wp2_with fail
  refine HS.out.mono ?_
  rintro e w6 ⟨rfl, g6, _, k6⟩
  have G6 : Hid (PkG w _ T4 w6 bp bf pw4 [112] [pa]) := Lib.hid g6
  have J6 := Lib.hid (J5.out.kept (k6 _ (Or.inr rfl)))
  clear g6 k6 HS G5
  have hal := (Below.refl w6.heap.size w6).alloc (Nat.le_refl _) (.cells #[.int .u8 120, .int .u8 121, .int .u8 122] 5 (3, 4))
  have BL : BytesC (fun k => w6.heap.size ≤ k ∧ k < w6.heap.size + 1) (w6.alloc (.cells #[.int .u8 120, .int .u8 121, .int .u8 122] 5 (3, 4))) (.slice (some ⟨w6.heap.size, 0, none⟩) 3 3) px := bytes_lit w6 px (3, 4) (by decide)
  have HA := add_short (G6.out.beside hal) ((HE.out.on G6.out.fs.below).on hal) pw_steps.2.2.2.1 _ _ px BL (fun k hk => by simp; omega) (by decide)
  rw [pw_add2] at HA
  have HAA := Lib.hid HA
  have J7 := Lib.hid (J6.out.kept (hal.block w4.heap.size (G6.out.fs.lt _ (Or.inr rfl))))
  clear HA hal BL J6
  go_wp2_with fail
  refine HAA.out.mono ?_
  rintro e w8 ⟨rfl, _, k8, T8, g8, _⟩
  have G8 := Lib.hid g8
  have J8 := Lib.hid (J7.out.kept (k8 _ (Or.inr rfl) (fun h => by have := HT4.out _ h; omega)))
  clear g8 k8 J7 HAA G6
  have HC := g_crash G8.out.fs pw_steps.2.2.2.2.1 0 5
  have HCC := Lib.hid HC
  clear HC
  go_wp2_with fail
  refine HCC.out.mono ?_
  rintro e w9 ⟨rfl, g9, _, k9⟩
  have G9 : Hid (FsG w _ w9 bf pw6) := Lib.hid g9
  have J9 := Lib.hid (J8.out.kept (k9 _ (Or.inl (Or.inr rfl))))
  clear g9 k9 J8 HCC G8
  have HO := popen_any G9.out (HE.out.on G9.out.below) pw_steps.2.2.2.2.2 [112] (by decide)
  rw [pw_open] at HO
  have HOO := Lib.hid HO
  clear HO
  go_wp2_with fail
  refine HOO.out.mono ?_
  rintro e wa ⟨_, ka, bq, Ta, rfl, ga, _⟩
  have GA := Lib.hid ga
  have JA := Lib.hid (J9.out.kept (ka _ (Or.inl (Or.inr rfl))))
  have hla : w4.heap.size < wa.heap.size := ga.fs.lt _ (Or.inl (Or.inl (Or.inr rfl)))
  clear ga ka HOO J9 G9
  have HG := Lib.hid (get_any GA.out (HE.out.on GA.out.fs.below) X H32.out)
  have hfr : firstR [pa] X = some pa := by unfold firstR; rw [if_pos HX.out]
  rw [hfr] at HG
  have cA := JA.out.cells
  clear hfr
  go_wp2_with fail
  refine HG.out.mono ?_
  rintro e wb ⟨hbb, vb, rfl, hob⟩
  obtain ⟨ab, cb, rfl⟩ := own_slice hob
  have GB := Lib.hid (GA.out.beside hbb)
  have JB := Lib.hid (JA.out.kept (hbb.block _ hla))
  have BB := Lib.hid hbb
  have hsb := bytes_str (own_c hob)
  have hzb := hbb.size
  have HSZ := Lib.hid (psize_any GB.out)
  have hfl : (framesL [pa]).length = 15 := by show (frameL pa ++ []).length = 15; rw [List.append_nil]; exact pw_reads.2.2.1
  rw [hfl] at HSZ
  clear hob hbb cA HG hfl
  go_wp2_with fail
  refine HSZ.out.mono ?_
  rintro e wc ⟨rfl, hbc⟩
  have GC := Lib.hid (GB.out.beside hbc)
  have hzc := hbc.size
  have JC := Lib.hid (JB.out.kept (hbc.block _ (by omega)))
  obtain ⟨bm, n, D, vi, hpk, _, _⟩ := GC.out.pk
  have HPK := Lib.hid hpk
  have HI := Lib.hid (ids_any hpk (by decide))
  clear hbc hpk HSZ GB JB
  go_wp2_with fail
  refine HI.out.mono ?_
  rintro e wd ⟨vd, rfl, hod, hbd⟩
  obtain ⟨ad, cd, rfl⟩ : ∃ a c, vd = .slice a 1 c := by
    rcases hod.2 with ⟨h1, h2⟩ | ⟨g, cap, cur, h1, _⟩
    · exact absurd h2 (by decide)
    · exact ⟨_, _, h1⟩
  have hzd := hbd.size
  have JD := Lib.hid (JC.out.kept (hbd.block _ (by omega)))
  have hpd := HPK.out.kept (w' := wd) (fun k hk => hbd.block k (HPK.out.lt k hk).2)
  have HPD := Lib.hid hpd
  have HH := has_any hpd X H32.out
  have hfs : (placeOf [pa] X).isSome = true := by
    rw [placeOf_iff]
    unfold firstR
    rw [if_pos HX.out]
    rfl
  rw [hfs] at HH
  have HHH := Lib.hid HH
  have cD := JD.out.cells
  have GD := Lib.hid (GC.out.beside hbd)
  clear hod hbd hpd HH hfs HI JC GC
  go_wp2_with fail
  refine HHH.out.mono ?_
  rintro e we ⟨rfl, hbe⟩
  have hpe := HPD.out.kept (w' := we) (fun k hk => hbe.block k (HPD.out.lt k hk).2)
  have HNM := Lib.hid (pname_any hpe)
  have GE := Lib.hid (GD.out.beside hbe)
  clear hpe hbe cD
  go_wp2_with fail
  refine HNM.out.mono ?_
  rintro e wf ⟨rfl, rfl⟩
  go_wp2_with fail
  go_ret
  exact ⟨rfl, GE.out.fs.below⟩
end Go.Proofs.YtgknihcpmpfocaaDoor
