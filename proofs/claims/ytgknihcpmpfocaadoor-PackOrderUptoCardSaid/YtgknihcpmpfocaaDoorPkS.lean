/- The walk of Add. -/
import Derived.Test.YtgknihcpmpfocaaDoorPkR
import Derived.Deep.DeepCutAuto
namespace Go.Proofs.YtgknihcpmpfocaaDoor
open Go.RowKit Go.Maps
attribute [local simp high] id_size id_zero

theorem chunk_one {S : Nat → Prop} {w : World} {v : Value} {l : List UInt8} (h : BytesC S w v l) (hS : ∀ k, S k → k < w.heap.size) : ChunksC (fun k => S k ∨ k = w.heap.size) (w.alloc (.cells #[v] 22)) (.slice (some ⟨w.heap.size, 0, none⟩) 1 1) [l] := by
  refine Or.inr ⟨_, 1, rfl, Nat.le_refl _, by unfold maxLen; omega, Or.inr (Or.inr rfl), fun j u hj => ?_⟩
  cases j with
  | succ j => simp at hj
  | zero =>
    simp at hj
    subst hj
    refine ⟨v, ?_, h.kept (fun k hk => ⟨Or.inl hk, Below.heap_alloc w _ k (hS k hk)⟩)⟩
    rw [Addr.add_mid, Nat.zero_add, cell_of_row _ _ _ _ _ _ (new_five w #[v] 22)]
    rfl
/-- What Add makes: the file system, the records, the id and the code that it answers. -/
def addR (s : Fs) (x : Nm) (all : List (List UInt8)) (d : List UInt8) : Fs × List (List UInt8) × List UInt8 × Int :=
  if 524288 < d.length then (s, all, zeros, 2) else match firstR all (sumN d) with
    | some r => if r = d then (s, all, sumN d, 0) else (s, all, zeros, 150)
    | none => if (appendS s x (frameL d)).2 = 0 then ((appendS s x (frameL d)).1, all ++ [d], sumN d, 0) else (s, all, zeros, (appendS s x (frameL d)).2)
def AddP (w0 : World) (F T : Nat → Prop) (w : World) (bp bf : Nat) (x : Nm) (s' : Fs) (all' : List (List UInt8)) (X : List UInt8) (c : Int) (e : Ending) (w' : World) : Prop :=
  e = .returned (.tuple #[.agg (bv X).toArray, .int .i64 c]) ∧ w.heap.size ≤ w'.heap.size ∧ (∀ k, F k → ¬ T k → w'.heap[k]? = w.heap[k]?) ∧ ∃ T', PkG w0 (fun k => F k ∨ T' k) T' w' bp bf s' x all' ∧ ∀ k, T' k → T k ∨ w.heap.size ≤ k
theorem PkG.still {w0 w w' : World} {F T : Nat → Prop} {bp bf : Nat} {s : Fs} {x : Nm} {all : List (List UInt8)} (g : PkG w0 F T w bp bf s x all) (hb : Below w.heap.size w w') :
    w.heap.size ≤ w'.heap.size ∧ (∀ k, F k → ¬ T k → w'.heap[k]? = w.heap[k]?) ∧ ∃ T', PkG w0 (fun k => F k ∨ T' k) T' w' bp bf s x all ∧ ∀ k, T' k → T k ∨ w.heap.size ≤ k :=
  ⟨hb.size, fun k hk _ => hb.block k (g.fs.lt k hk), T, g.more hb (fun k hk => Or.inl (hk.elim id (fun h => (g.sub k h).1))) (fun _ hk => Or.inl hk), fun _ hk => Or.inl hk⟩
theorem FsG.far {w0 w w' : World} {F F' P : Nat → Prop} {bf : Nat} {s : Fs} (g : FsG w0 F w bf s) (h : Far P w w') (hP : ∀ k, P k → F k ∧ w0.heap.size ≤ k) (hF' : ∀ k, F' k → F k ∨ (w.heap.size ≤ k ∧ k < w'.heap.size)) : FsG w0 F' w' bf s := by
  obtain ⟨X, h1, hF⟩ := g.ex
  refine ⟨⟨X, h1.kept (fun k ht => h.block k (h1.dom k ht).2 (fun hp => ht (hF k (hP k hp).1).1)) h.size, fun k hk => ?_⟩, g.below.trans (h.below (fun k hk => (hP k hk).2) g.below.size), g.ok⟩
  rcases hF' k hk with h2 | h2
  · exact ⟨(hF k h2).1, Nat.lt_of_lt_of_le (hF k h2).2 h.size⟩
  · refine ⟨?_, h2.2⟩
    cases e : X.T k with
    | no => rfl
    | _ => exact absurd (h1.dom k (by rw [e]; exact fun c => by cases c)).2 (by omega)
theorem alone_setRow (b : Nat) (w : World) (row : Array Value) : Alone b w (w.setRow b row) := ⟨rfl, rfl, rfl, by simp [World.setRow], fun k _ hn => setRow_other w b k row hn⟩
theorem add_fin {w0 wz : World} {F F1 T' : Nat → Prop} {bp bf b4 : Nat} {s' : Fs} {x : Nm} {all' : List (List UInt8)} (h1 : FsG w0 F1 wz bf s') (hb4 : F1 b4) (hB : w0.heap.size ≤ b4)
    (pk : ∃ bm n D vi, PackAt w0.heap.size wz bp bf bm n D vi x (idsOf all') (placeOf all') ∧ n ≤ all'.length ∧ ∀ k, PkT bp bm vi k → T' k) (hT : ∀ k, T' k → k ≠ b4 ∧ F1 k ∧ w0.heap.size ≤ k) (hF : ∀ k, F k → F1 k) (hr : readS s' x = (framesL all', 0)) (xl : x.length ≤ 4194304) (row : Array Value) :
    PkG w0 (fun k => F k ∨ T' k) T' (wz.setRow b4 row) bp bf s' x all' := by
  obtain ⟨bm, n, D, vi, k1, k2, k3⟩ := pk
  have hw := h1.write hb4 hB (alone_setRow b4 wz row)
  obtain ⟨X, q1, q2⟩ := hw.ex
  refine ⟨⟨⟨X, q1, fun k hk => q2 k ?_⟩, hw.below, hw.ok⟩, ⟨bm, n, D, vi, k1.kept (fun k hk => setRow_other _ _ _ _ (hT k (k3 k hk)).1), k2, k3⟩, fun k hk => ⟨Or.inr hk, (hT k hk).2.2⟩, hr, xl⟩
  rcases hk with hk | hk
  · exact hF k hk
  · exact (hT k hk).2.1
set_option maxRecDepth 100000 in
set_option maxHeartbeats 4000000 in
theorem add_long {w0 w : World} {F T : Nat → Prop} {bp bf : Nat} {s : Fs} {x : Nm} {all : List (List UInt8)} (g : PkG w0 F T w bp bf s x all)
    (S : Nat → Prop) (v : Value) (d : List UInt8) (hd : BytesC S w v d) (hl : 524288 < d.length) :
    Calls Tryd.prog 15 #[.pointer (some ⟨bp, 0, none⟩), v] w (AddP w0 F T w bp bf x s all zeros 2) := by
  have i1 := IDAt.new w
  have I1 := Lib.hid i1
  have zz : (bv zeros).length = n32 := rfl
  have B1 := Lib.hid ((Below.refl w.heap.size w).alloc (Nat.le_refl _) (.cells (bv zeros).toArray 44))
  have G := Lib.hid g
  obtain ⟨a, ca, rfl⟩ := hd.shape
  obtain ⟨nd, hnd⟩ : ∃ nd, d.length = nd := ⟨_, rfl⟩
  rw [hnd] at hl ⊢
  have hg : decide ((nd : Int) > 524288) = true := decide_eq_true (by omega)
  clear hnd hd g i1 hl
  go_enter Tryd.func15, Tryd.ntmps15
  go_upto_region 1 with fail
  generalize w.alloc (.cells (bv zeros).toArray 44) = w1 at *
  have s1 := I1.out.write (l := zeros) rfl
  have hfz : w1.frozen? ⟨w.heap.size, 0, none⟩ = false := I1.out.free 0
  go_wp2_with fail
  exact bodyPost_ret (v := .tuple #[.agg (bv zeros).toArray, .int .i64 2]) (results_id rfl _ _ rfl rfl (I1.out.put rfl)) rfl ⟨rfl, G.out.still (below_setRow B1.out (Nat.le_refl _) _)⟩
set_option maxRecDepth 100000 in
set_option maxHeartbeats 4000000 in
theorem add_short {w0 w : World} {F T : Nat → Prop} {bp bf : Nat} {s : Fs} {x : Nm} {all : List (List UInt8)} (g : PkG w0 F T w bp bf s x all) (hE : Env w) (hs : s.steps ≤ 16777214)
    (S : Nat → Prop) (v : Value) (d : List UInt8) (hd : BytesC S w v d) (hS : ∀ k, S k → k < w.heap.size) (hl : d.length ≤ 524288) :
    Calls Tryd.prog 15 #[.pointer (some ⟨bp, 0, none⟩), v] w (AddP w0 F T w bp bf x (addR s x all d).1 (addR s x all d).2.1 (addR s x all d).2.2.1 (addR s x all d).2.2.2) := by
  have i1 := IDAt.new w
  have I1 := Lib.hid i1
  have zz : (bv zeros).length = n32 := rfl
  have B1 := Lib.hid ((Below.refl w.heap.size w).alloc (Nat.le_refl _) (.cells (bv zeros).toArray 44))
  have G := Lib.hid g
  have HE := Lib.hid hE
  have HD := Lib.hid hd
  have HS := Lib.hid hS
  have HL := Lib.hid hl
  have HSS := Lib.hid hs
  obtain ⟨a, ca, rfl⟩ := hd.shape
  obtain ⟨nd, hnd⟩ : ∃ nd, d.length = nd := ⟨_, rfl⟩
  have HND := Lib.hid hnd
  rw [hnd] at hl ⊢
  have hg : decide ((nd : Int) > 524288) = false := decide_eq_false (by omega)
  generalize hR : addR s x all d = R
  obtain ⟨s', all', X', c'⟩ := R
  dsimp only
  have HRS := Lib.hid hR
  clear hnd hd g i1 hl hE hS hR hs
  go_enter Tryd.func15, Tryd.ntmps15
  go_upto_region 3 with fail
  have hz1 : (w.alloc (.cells (bv zeros).toArray 44)).heap.size = w.heap.size + 1 := by simp
  generalize w.alloc (.cells (bv zeros).toArray 44) = w1 at *
  have HD1 := Lib.hid (HD.out.kept (S' := S) (w' := w1) (fun k hk => ⟨hk, B1.out.block k (HS.out k hk)⟩))
  have B2 := Lib.hid (B1.out.alloc (by omega) (.cells #[.slice a nd ca] 22))
  have I2 := Lib.hid (I1.out.kept (w' := w1.alloc (.cells #[.slice a nd ca] 22)) (Below.heap_alloc w1 _ _ (by omega)))
  have HCH := chunk_one HD1.out (fun k hk => by have := HS.out k hk; omega)
  rw [HND.out, hz1] at HCH
  have HSM := Lib.hid (sum_any (fun k => S k ∨ k = w.heap.size + 1) _ [d] (w1.alloc (.cells #[.slice a nd ca] 22)) (fun k hk => by have h := HS.out k; simp; rcases hk with hk | hk <;> first | (have := h hk; omega) | omega) HCH (by simp; have := HL.out; omega) (by simp) (HE.out.on B2.out))
  have hz2 : (w1.alloc (.cells #[.slice a nd ca] 22)).heap.size = w.heap.size + 2 := by simp [hz1]
  have hfl1 : [d].flatten = d := by simp
  rw [hfl1] at HSM
  clear HCH hfl1
  go_wp2_with fail
  refine HSM.out.mono ?_
  rintro e w3 ⟨rfl, hb3⟩
  obtain ⟨X, hX⟩ : ∃ X, sumN d = X := ⟨_, rfl⟩
  rw [hX]
  have hX32 : X.length = 32 := by rw [← hX]; exact sumN_len _
  have HX := Lib.hid hX
  have H32 := Lib.hid hX32
  have B3 := Lib.hid (B2.out.trans (hb3.mono (by omega)))
  have hz3 := hb3.size
  have I3 := Lib.hid (I2.out.kept (hb3.block _ (by omega)))
  have hn4 := IDAt.new w3
  have c4 := hn4.write (l := X) hX32
  have zx : (bv X).length = n32 := by rw [bv_len, hX32]; rfl
  have J4 := Lib.hid (hn4.put hX32)
  have B4 := Lib.hid (below_setRow (B3.out.alloc B3.out.size (.cells (bv zeros).toArray 44)) B3.out.size (bv X).toArray)
  have I4 : Hid (IDAt ((w3.alloc (.cells (bv zeros).toArray 44)).setRow w3.heap.size (bv X).toArray) w.heap.size zeros) := Lib.hid (I3.out.kept (by rw [setRow_other _ w3.heap.size w.heap.size (bv X).toArray (by omega), Below.heap_alloc w3 _ _ (by omega)]))
  have hz4 : ((w3.alloc (.cells (bv zeros).toArray 44)).setRow w3.heap.size (bv X).toArray).heap.size = w3.heap.size + 1 := by simp [World.setRow]
  clear hX hX32 hb3 hn4 HSM
  go_upto_region 4 with fail
  generalize (w3.alloc (.cells (bv zeros).toArray 44)).setRow w3.heap.size (bv X).toArray = w4 at *
  generalize w3.heap.size = b6 at *
  clear c4
  have G4 := Lib.hid (G.out.beside B4.out)
  have hz4w := B4.out.size
  have c6 := J4.out.cells
  obtain ⟨bm, n, D, vi, h4, hn4, hT4⟩ := G4.out.pk
  have HH := Lib.hid (has_any h4 X H32.out)
  rw [placeOf_iff] at HH
  have HPK := Lib.hid h4
  clear h4 hT4
  go_wp2_with fail
  refine HH.out.mono ?_
  rintro e w5 ⟨rfl, hb5⟩
  have hz5 := hb5.size
  have B5 := Lib.hid (B4.out.trans (hb5.mono (by omega)))
  have G5 := Lib.hid (G.out.beside B5.out)
  have I5 := Lib.hid (I4.out.kept (hb5.block _ (by omega)))
  have J5 := Lib.hid (J4.out.kept (hb5.block _ (by omega)))
  have HD5 := Lib.hid (HD.out.kept (S' := S) (w' := w5) (fun k hk => ⟨hk, B5.out.block k (HS.out k hk)⟩))
  have hz5w := B5.out.size
  clear hb5 c6 HH
  have c6 := J5.out.cells
  cases hfr : firstR all X with
  | some r =>
    have HFR := Lib.hid hfr
    have hso : (some r : Option (List UInt8)).isSome = true := rfl
    have HSA := Lib.hid (same_any G5.out (HE.out.on B5.out) X H32.out hfr S _ d HD5.out (fun k hk => by have := HS.out k hk; omega))
    rw [HND.out] at HSA
    clear hfr
    go_wp2_with fail
    refine HSA.out.mono ?_
    rintro e w7 ⟨hb7, rfl⟩
    have hz7 := hb7.size
    have I7 := Lib.hid (I5.out.kept (hb7.block _ (by omega)))
    have B7 := Lib.hid (B5.out.trans (hb7.mono (by omega)))
    obtain ⟨Y, hY⟩ : ∃ Y, (if decide (r = d) = true then X else zeros) = Y := ⟨_, rfl⟩
    have hY32 : Y.length = 32 := by rw [← hY]; split; exact H32.out; rfl
    obtain ⟨cc, hcc⟩ : ∃ cc : Int, (if decide (r = d) = true then (0 : Int) else 150) = cc := ⟨_, rfl⟩
    have zy : (bv Y).length = n32 := by rw [bv_len, hY32]; rfl
    have s7 := I7.out.write (l := Y) hY32
    have hfz : w7.frozen? ⟨w.heap.size, 0, none⟩ = false := I7.out.free 0
    have HRR : Hid (s = s' ∧ all = all' ∧ Y = X' ∧ cc = c') := Lib.hid (by
      have h := HRS.out
      unfold addR at h
      rw [if_neg (by have := HL.out; omega), HX.out, HFR.out] at h
      rw [← hY, ← hcc]
      by_cases e : r = d
      · dsimp only at h
        rw [if_pos e] at h
        simp only [Prod.mk.injEq] at h
        rw [decide_eq_true e, if_pos rfl, if_pos rfl]
        exact h
      · dsimp only at h
        rw [if_neg e] at h
        simp only [Prod.mk.injEq] at h
        rw [decide_eq_false e, if_neg (by decide), if_neg (by decide)]
        exact h)
    rw [hY, hcc]
    have HY := Lib.hid hY32
    clear hY hcc hY32 hb7 HSA c6
    go_wp2_with fail
    obtain ⟨e1, e2, e3, e4⟩ := HRR.out
    rw [← e1, ← e2, ← e3, ← e4]
    exact bodyPost_ret (v := .tuple #[.agg (bv Y).toArray, .int .i64 cc]) (results_id rfl _ _ rfl rfl (I7.out.put HY.out)) rfl ⟨rfl, G.out.still (below_setRow B7.out (by omega) _)⟩
  | none =>
    have HFR := Lib.hid hfr
    have hso : (none : Option (List UInt8)).isSome = false := rfl
    have HSZ := Lib.hid (psize_any G5.out)
    obtain ⟨m, hm⟩ : ∃ m, (framesL all).length = m := ⟨_, rfl⟩
    have HM := Lib.hid hm
    have hm2 : m ≤ 4194304 := by rw [← hm]; exact readS_len G5.out.fs.ok G5.out.read
    rw [hm] at HSZ
    have hw1 : IntKind.i64.wrap ((m : Int) + 12) = (m : Int) + 12 := IntWalk.i64_in _ (by omega)
    have HM2 := Lib.hid hm2
    clear hfr hm hm2
    go_wp2_with fail
    refine HSZ.out.mono ?_
    rintro e w6 ⟨rfl, hb6⟩
    have hz6 := hb6.size
    have B6 := Lib.hid (B5.out.trans (hb6.mono (by omega)))
    have G6 := Lib.hid (G.out.beside B6.out)
    have I6 := Lib.hid (I5.out.kept (hb6.block _ (by omega)))
    have J6 := Lib.hid (J5.out.kept (hb6.block _ (by omega)))
    have HD6 := Lib.hid (HD.out.kept (S' := S) (w' := w6) (fun k hk => ⟨hk, B6.out.block k (HS.out k hk)⟩))
    have hz6w := B6.out.size
    clear hb6 HSZ c6
    go_upto_region 7 with fail
    obtain ⟨ca2, hca2⟩ : ∃ ca2, (appendS s x (frameL d)).2 = ca2 := ⟨_, rfl⟩
    obtain ⟨sa, hsa⟩ : ∃ sa, (appendS s x (frameL d)).1 = sa := ⟨_, rfl⟩
    have HAR := Lib.hid (appendS_read G6.out.fs.ok G6.out.read (frameL d))
    rw [hca2, hsa] at HAR
    obtain ⟨bm6, n6, D6, vi6, h6, _⟩ := G6.out.pk
    have hkk : ∀ W : World, (∀ k, k < w6.heap.size → W.heap[k]? = w6.heap[k]?) → W.cell? ⟨bp, 0, none⟩ = some (.pointer (some ⟨bf, 0, none⟩)) ∧ W.cell? ⟨bp, 1, none⟩ = some (.string ⟨x.toArray⟩) ∧ (loadCellsFrom ⟨b6, 0, none⟩ 0 n32 #[]).run Tryd.prog W = .ok (bv X).toArray W := fun W hW => by
      have h7 := (h6.kept (w' := W) (fun k hk => hW k (h6.lt k hk).2)).cell
      exact ⟨h7.1, h7.2.1, (J6.out.kept (hW _ (by omega))).cells⟩
    have HKK := Lib.hid hkk
    obtain ⟨p0, p1, p2⟩ := hkk w6.drew (fun _ _ => rfl)
    have HF := frame_any S X d _ w6.drew H32.out (HD6.out.kept (fun k hk => ⟨hk, rfl⟩)) (fun k hk => by show k < w6.heap.size; have := HS.out k hk; omega) HL.out
    rw [HND.out] at HF
    have HFF := Lib.hid HF
    have hfe : be4 nd ++ X.take 8 ++ d = frameL d := by unfold frameL headL; rw [HX.out, HND.out]
    have HFE := Lib.hid hfe
    have HAP : Hid (∀ (W : World) (u : Value), BytesC (fun k => w6.heap.size ≤ k ∧ k < W.heap.size) W u (be4 nd ++ X.take 8 ++ d) → Below w6.heap.size w6.drew W → Calls Tryd.prog 34 #[.pointer (some ⟨bf, 0, none⟩), .string ⟨x.toArray⟩, u] W fun e W' => e = .returned (.int .i64 ca2) ∧ Hid (FsG w0 (fun k => F k ∨ (w.heap.size ≤ k ∧ k < w6.heap.size)) W' bf sa ∧ w6.heap.size ≤ W'.heap.size ∧ (∀ k, (F k ∨ (w.heap.size ≤ k ∧ k < w6.heap.size)) → W'.heap[k]? = w6.heap[k]?))) := Lib.hid (fun W u hu hb => by
      have hb' : Below w6.heap.size w6 W := (drewBelow w6).trans hb
      rw [HFE.out] at hu
      have hgm := G.out.fs.more (F' := fun k => F k ∨ (w.heap.size ≤ k ∧ k < W.heap.size)) (B6.out.trans (hb'.mono (by omega))) (fun k hk => hk)
      refine (g_append hgm HSS.out x G.out.xl (fun k => w6.heap.size ≤ k ∧ k < W.heap.size) u (frameL d) hu (fun k hk => Or.inr (Or.inr ⟨by omega, hk.2⟩)) (by rw [frameL_len]; have := HL.out; omega)).mono ?_
      rintro e W' ⟨rfl, k1, k2, k3⟩
      rw [hca2, hsa] at *
      have hzb := hb'.size
      refine ⟨rfl, Lib.hid ⟨?_, by omega, fun k hk => ?_⟩⟩
      · obtain ⟨Z, q1, q2⟩ := k1.ex
        exact ⟨⟨Z, q1, fun k hk => q2 k (hk.elim Or.inl (fun h => Or.inr ⟨h.1, by omega⟩))⟩, k1.below, k1.ok⟩
      · have hkl : k < w6.heap.size := by
          rcases hk with hk | hk
          · have := G.out.fs.lt k hk; omega
          · exact hk.2
        refine (k3 k ?_).trans (hb'.block k hkl)
        rcases hk with hk | hk
        · exact Or.inl hk
        · exact Or.inr ⟨hk.1, by omega⟩)
    have HC := Lib.hid hca2
    have HS2 := Lib.hid hsa
    clear hkk h6 hca2 hsa hfe HF
    go_cut [8] (fun s8 wx => s8 = .int .i64 ca2 ∧ Hid (FsG w0 (fun k => F k ∨ (w.heap.size ≤ k ∧ k < w6.heap.size)) wx bf sa ∧ w6.heap.size ≤ wx.heap.size ∧ (∀ k, (F k ∨ (w.heap.size ≤ k ∧ k < w6.heap.size)) → wx.heap[k]? = w6.heap[k]?)))
    case first =>
      go_region_with (first | (go_at_call 35; refine HFF.out.mono ?_; rintro e w7 ⟨u, rfl, hu, hb7⟩; obtain ⟨q0, q1, q2⟩ := HKK.out w7 (fun k hk => hb7.block k hk); have HAA := Lib.hid (HAP.out w7 u hu hb7); clear hu hb7) | (go_at_call 34; refine HAA.out.mono ?_; rintro e w8 ⟨rfl, h8⟩))
      all_goals
        go_wp2_with fail
        go_meet
        exact ⟨rfl, h8⟩
    case rest =>
      obtain ⟨rfl, H8⟩ := hcut
      clear p0 p1 p2
      have hzc := H8.out.2.1
      have HBW : Hid (w0.heap.size ≤ w.heap.size) := Lib.hid G.out.fs.below.size
      have HFL : Hid (∀ k, F k → k < w.heap.size) := Lib.hid G.out.fs.lt
      obtain ⟨bm6, n6, D6, vi6, h6, hn6, hT6⟩ := G6.out.pk
      have H6 := Lib.hid (h6.kept (w' := wc) (fun k hk => H8.out.2.2 k (Or.inl (G.out.sub k (hT6 k hk)).1)))
      have HT6 := Lib.hid hT6
      have HN6 := Lib.hid hn6
      have Ic := Lib.hid (I6.out.kept (H8.out.2.2 _ (Or.inr ⟨Nat.le_refl _, by omega⟩)))
      have Jc := Lib.hid (J6.out.kept (H8.out.2.2 _ (Or.inr ⟨by omega, by omega⟩)))
      clear h6 hT6 hn6 HAP HKK HFF
      by_cases hz : ca2 = 0
      · subst hz
        have hrd : readS sa x = (framesL all ++ frameL d, 0) ∧ sa.steps = s.steps + 1 := by
          rcases HAR.out with ⟨_, h1, h2⟩ | ⟨h1, _⟩
          · exact ⟨h1, h2⟩
          · exact absurd rfl h1
        have HRD := Lib.hid hrd
        have hal : all.length ≤ m := by
          have h1 := framesL_ge all
          have h2 := HM.out
          omega
        have HNT := Lib.hid (note_any H6.out (by have := HBW.out; omega) X H32.out (m + 12, m + 12 + nd) (by have := HN6.out; have := HM2.out; omega) (by have := idsOf_len all; have := HM2.out; omega))
        have hc1 : ((m + 12 : Nat) : Int) = (m : Int) + 12 := by omega
        have hc2 : ((m + 12 + nd : Nat) : Int) = (m : Int) + 12 + (nd : Int) := by omega
        dsimp only at HNT
        rw [hc1, hc2] at HNT
        have hw2 : IntKind.i64.wrap ((m : Int) + 12 + (nd : Int)) = (m : Int) + 12 + (nd : Int) := by
          have := HM2.out; have h1 := HL.out; rw [HND.out] at h1
          exact IntWalk.i64_in _ (by omega)
        have cj := Jc.out.cells
        clear hc1 hc2 hrd hal
        go_wp2_with fail
        refine HNT.out.mono ?_
        rintro e w9 ⟨rfl, D9, vi9, h9, ho9, hf9⟩
        have hz9 := hf9.size
        have hltc := H6.out.lt
        have hTlt : ∀ k, PkT bp bm6 vi6 k → k < w.heap.size := fun k hk => HFL.out k (G.out.sub k (HT6.out k hk)).1
        have H9 := Lib.hid h9
        have O9 := Lib.hid ho9
        have F9 := Lib.hid hf9
        have HTL := Lib.hid hTlt
        have I9 := Lib.hid (Ic.out.kept (hf9.block _ (by omega) (fun h => by have := hTlt _ h; omega)))
        have J9 := Lib.hid (Jc.out.kept (hf9.block _ (by omega) (fun h => by have := hTlt _ h; omega)))
        clear h9 ho9 hf9 hltc hTlt cj HNT hw2
        have cj := J9.out.cells
        have s9 := I9.out.write (l := X) H32.out
        have hfz : w9.frozen? ⟨w.heap.size, 0, none⟩ = false := I9.out.free 0
        go_wp2_with fail
        have hR : addR s x all d = (sa, all ++ [d], X, 0) := by
          unfold addR
          rw [if_neg (by have := HL.out; omega), HX.out, HFR.out]
          dsimp only
          rw [if_pos HC.out, HS2.out]
        rw [HRS.out] at hR
        simp only [Prod.mk.injEq] at hR
        obtain ⟨e1, e2, e3, e4⟩ := hR
        rw [e1, e2, e3, e4]
        have hids : idsOf (all ++ [d]) = noteI (placeOf all) (idsOf all) X := by rw [idsOf_snoc, HX.out]
        have hpls : placeOf (all ++ [d]) = noteP (placeOf all) X (m + 12, m + 12 + nd) := by rw [placeOf_snoc, HX.out, HM.out, HND.out]
        have hfa : framesL (all ++ [d]) = framesL all ++ frameL d := by rw [framesL_append]; unfold framesL; simp
        have h9 := H9.out
        rw [← hids, ← hpls] at h9
        have hl9 := h9.lt
        have hfs := H8.out.1.far (F' := fun k => (F k ∨ (w.heap.size ≤ k ∧ k < w6.heap.size)) ∨ (wc.heap.size ≤ k ∧ k < w9.heap.size)) F9.out (fun k hk => ⟨Or.inl (G.out.sub k (HT6.out k hk)).1, (G.out.sub k (HT6.out k hk)).2⟩) (fun k hk => hk)
        refine bodyPost_ret (v := .tuple #[.agg (bv X).toArray, .int .i64 0]) (results_id rfl _ _ rfl rfl (I9.out.put H32.out)) rfl ⟨rfl, by simp [World.setRow]; omega, fun k hk hn => ?_, fun k => T k ∨ vi9.ownBlock = some k, add_fin hfs (Or.inl (Or.inr ⟨Nat.le_refl _, by omega⟩)) HBW.out ⟨bm6, _, D9, vi9, h9, by rw [List.length_append]; exact Nat.succ_le_succ HN6.out, fun k hk => ?_⟩ (fun k hk => ?_) (fun k hk => Or.inl (Or.inl hk)) (by rw [hfa]; exact HRD.out.1) G.out.xl _, fun k hk => ?_⟩
        · have hkl := HFL.out k hk
          rw [setRow_other _ _ _ _ (by omega)]
          refine (F9.out.block k (by omega) (fun h => hn (HT6.out k h))).trans ((H8.out.2.2 k (Or.inl hk)).trans (B6.out.block k hkl))
        · rcases hk with rfl | rfl | hk
          · exact Or.inl (HT6.out _ (Or.inl rfl))
          · exact Or.inl (HT6.out _ (Or.inr (Or.inl rfl)))
          · exact Or.inr hk
        · rcases hk with hk | hk
          · have h1 := G.out.sub k hk
            have h2 := HFL.out k h1.1
            exact ⟨by omega, Or.inl (Or.inl h1.1), h1.2⟩
          · rcases O9.out k hk with h1 | h1
            · have h2 := G.out.sub k (HT6.out k (Or.inr (Or.inr h1)))
              have h3 := HFL.out k h2.1
              exact ⟨by omega, Or.inl (Or.inl h2.1), h2.2⟩
            · have h2 := (hl9 k (Or.inr (Or.inr hk))).2
              have := HBW.out
              exact ⟨by omega, Or.inr ⟨h1, h2⟩, by omega⟩
        · rcases hk with hk | hk
          · exact Or.inl hk
          · rcases O9.out k hk with h1 | h1
            · exact Or.inl (HT6.out k (Or.inr (Or.inr h1)))
            · exact Or.inr (by omega)
      · have hcb : (ca2 == 0) = false := by rw [beq_eq_false_iff_ne]; exact hz
        have HZ := Lib.hid hz
        have hsa : sa = s := by
          rcases HAR.out with ⟨h1, _⟩ | ⟨_, h1⟩
          · exact absurd h1 hz
          · exact h1
        have HSA := Lib.hid hsa
        have s9 := Ic.out.write (l := zeros) rfl
        have hfz : wc.frozen? ⟨w.heap.size, 0, none⟩ = false := Ic.out.free 0
        clear hsa hz
        go_wp2_with fail
        have hR : addR s x all d = (s, all, zeros, ca2) := by
          unfold addR
          rw [if_neg (by have := HL.out; omega), HX.out, HFR.out]
          dsimp only
          rw [HC.out, if_neg HZ.out]
        rw [HRS.out] at hR
        simp only [Prod.mk.injEq] at hR
        obtain ⟨e1, e2, e3, e4⟩ := hR
        rw [e1, e2, e3, e4]
        have h8 := H8.out.1
        rw [HSA.out] at h8
        refine bodyPost_ret (v := .tuple #[.agg (bv zeros).toArray, .int .i64 ca2]) (results_id rfl _ _ rfl rfl (Ic.out.put rfl)) rfl ⟨rfl, by simp [World.setRow]; omega, fun k hk hn => ?_, T, add_fin h8 (Or.inr ⟨Nat.le_refl _, by omega⟩) HBW.out ⟨bm6, n6, D6, vi6, H6.out, HN6.out, HT6.out⟩ (fun k hk => ?_) (fun k hk => Or.inl hk) G.out.read G.out.xl _, fun k hk => Or.inl hk⟩
        · have hkl := HFL.out k hk
          rw [setRow_other _ _ _ _ (by omega)]
          exact (H8.out.2.2 k (Or.inl hk)).trans (B6.out.block k hkl)
        · have h1 := G.out.sub k hk
          have h2 := HFL.out k h1.1
          exact ⟨by omega, Or.inl h1.1, h1.2⟩
end Go.Proofs.YtgknihcpmpfocaaDoor
