/- The law through the layers: what ours changes, and what the merge changes of ours. -/
import Derived.Test.YtfiogjdjcocbnaaWeavAh
import Derived.Test.YtfiogjdjcocbnaaLinR
namespace Go.Proofs.Ytfiogjdjcocbnaa
open Go.RowKit
attribute [local go_sem ↓] Go.wp_at_zero Go.wp_at_succ

theorem mul_200 {a b : Nat} (ha : a ≤ 200) (hb : b ≤ 3000) : a * b ≤ 1048576 := Nat.le_trans (Nat.mul_le_mul ha hb) (by decide)
set_option maxRecDepth 100000 in
set_option maxHeartbeats 8000000 in
theorem whole_weave (S T R : Nat → Prop) (va vb vc : Value) (x y z : List UInt8) (w : World) (hS : ∀ k, S k → k < w.heap.size) (hT : ∀ k, T k → k < w.heap.size) (hR : ∀ k, R k → k < w.heap.size) (ha : BytesC S w va x) (hb : BytesC T w vb y) (hc : BytesC R w vc z) (hl : x.length + y.length + z.length ≤ 1048576) :
    Calls Try.prog 17 #[va, vb, vc] w (TrueP w) := by
  unfold TrueP
  have HX := Lib.hid (fun (W : World) (h : Below w.heap.size w W) => ha.kept (S' := fun k => k < w.heap.size) (w' := W) (fun k hk => ⟨hS k hk, h.block k (hS k hk)⟩))
  have HY := Lib.hid (fun (W : World) (h : Below w.heap.size w W) => hb.kept (S' := fun k => k < w.heap.size) (w' := W) (fun k hk => ⟨hT k hk, h.block k (hT k hk)⟩))
  have HZ := Lib.hid (fun (W : World) (h : Below w.heap.size w W) => hc.kept (S' := fun k => k < w.heap.size) (w' := W) (fun k hk => ⟨hR k hk, h.block k (hR k hk)⟩))
  obtain ⟨xa, xc, rfl⟩ := ha.shape
  obtain ⟨ya, yc, rfl⟩ := hb.shape
  obtain ⟨za, zc, rfl⟩ := hc.shape
  have HL := Lib.hid hl
  have hxl : x.length ≤ 1048576 := by omega
  have hyl : y.length ≤ 1048576 := by omega
  have hzl : z.length ≤ 1048576 := by omega
  clear ha hb hc hS hT hR hl
  go_enter Try.func17, Try.ntmps17
  go_wp2_with fail
  refine (split_any _ _ x w (fun k hk => hk) (HX.out w (Below.refl _ _)) (by omega)).mono ?_
  rintro e w1 ⟨v1, rfl, ho, hb⟩
  obtain ⟨A, hA⟩ : ∃ L, linesL x = L := ⟨_, rfl⟩
  have hAf := linesL_flat x
  have hAl := linesL_len x
  rw [hA] at ho hAf hAl
  have AF := Lib.hid hAf
  have AX : Hid (∀ s ∈ A, s.length ≤ 4194304) := Lib.hid (fun s hs => by have := mem_flat_len hs; rw [hAf] at this; omega)
  have B1 : Hid (Below w.heap.size w w1) := Lib.hid (hb)
  have OA0 := Lib.hid ((ownS_c ho).kept (S' := fun k => k < w1.heap.size) (w' := w1) (fun k hk => ⟨hk.2, rfl⟩))
  obtain ⟨a1, c1, rfl⟩ := ownS_slice ho
  have hs1 := hb.size
  clear ho hb hA hAf
  go_wp2_with fail
  refine (split_any _ _ y w1 (fun k hk => Nat.lt_of_lt_of_le hk B1.out.size) (HY.out w1 B1.out) (by omega)).mono ?_
  rintro e w2 ⟨v2, rfl, ho, hb⟩
  obtain ⟨B, hB⟩ : ∃ L, linesL y = L := ⟨_, rfl⟩
  have hBf := linesL_flat y
  have hBl := linesL_len y
  rw [hB] at ho hBf hBl
  have BF := Lib.hid hBf
  have BX : Hid (∀ s ∈ B, s.length ≤ 4194304) := Lib.hid (fun s hs => by have := mem_flat_len hs; rw [hBf] at this; omega)
  have B2 : Hid (Below w.heap.size w w2) := Lib.hid (B1.out.trans (hb.mono B1.out.size))
  have OB0 := Lib.hid ((ownS_c ho).kept (S' := fun k => k < w2.heap.size) (w' := w2) (fun k hk => ⟨hk.2, rfl⟩))
  obtain ⟨a2, c2, rfl⟩ := ownS_slice ho
  have hs2 := hb.size
  have OA1 := Lib.hid (OA0.out.kept (S' := fun k => k < w2.heap.size) (w' := w2) (fun k hk => ⟨Nat.lt_of_lt_of_le hk hs2, hb.block k hk⟩))
  clear OA0
  clear ho hb hB hBf
  go_wp2_with fail
  refine (split_any _ _ z w2 (fun k hk => Nat.lt_of_lt_of_le hk B2.out.size) (HZ.out w2 B2.out) (by omega)).mono ?_
  rintro e w3 ⟨v3, rfl, ho, hb⟩
  obtain ⟨C, hC⟩ : ∃ L, linesL z = L := ⟨_, rfl⟩
  have hCf := linesL_flat z
  have hCl := linesL_len z
  rw [hC] at ho hCf hCl
  have CF := Lib.hid hCf
  have CX : Hid (∀ s ∈ C, s.length ≤ 4194304) := Lib.hid (fun s hs => by have := mem_flat_len hs; rw [hCf] at this; omega)
  have B3 : Hid (Below w.heap.size w w3) := Lib.hid (B2.out.trans (hb.mono B2.out.size))
  have OCn := Lib.hid ((ownS_c ho).kept (S' := fun k => k < w3.heap.size) (w' := w3) (fun k hk => ⟨hk.2, rfl⟩))
  obtain ⟨a3, c3, rfl⟩ := ownS_slice ho
  have hs3 := hb.size
  have OAn := Lib.hid (OA1.out.kept (S' := fun k => k < w3.heap.size) (w' := w3) (fun k hk => ⟨Nat.lt_of_lt_of_le hk hs3, hb.block k hk⟩))
  clear OA1
  have OBn := Lib.hid (OB0.out.kept (S' := fun k => k < w3.heap.size) (w' := w3) (fun k hk => ⟨Nat.lt_of_lt_of_le hk hs3, hb.block k hk⟩))
  clear OB0
  clear ho hb hC hCf
  have OA := Lib.hid (fun (W : World) (h : Below w3.heap.size w3 W) => OAn.out.kept (S' := fun k => k < w3.heap.size) (w' := W) (fun k hk => ⟨hk, h.block k hk⟩))
  have OB := Lib.hid (fun (W : World) (h : Below w3.heap.size w3 W) => OBn.out.kept (S' := fun k => k < w3.heap.size) (w' := W) (fun k hk => ⟨hk, h.block k hk⟩))
  have OC := Lib.hid (fun (W : World) (h : Below w3.heap.size w3 W) => OCn.out.kept (S' := fun k => k < w3.heap.size) (w' := W) (fun k hk => ⟨hk, h.block k hk⟩))
  have R3 := Lib.hid (Below.refl w3.heap.size w3)
  clear OAn OBn OCn B1 B2 hs1 hs2 hs3
  by_cases h1 : A.length ≤ 200
  · by_cases h2 : B.length ≤ 200
    · by_cases h3 : C.length ≤ 200
      · go_wp2_with fail
        refine (merge_any _ _ _ _ _ _ A B C w3 (fun _ hk => hk) (fun _ hk => hk) (fun _ hk => hk) (OA.out w3 R3.out) (OB.out w3 R3.out) (OC.out w3 R3.out) (by omega) (by omega) (by omega) AX.out BX.out CX.out (small_mul (by omega) (by omega)) (small_mul (by omega) (by omega))).mono ?_
        intro e w4 g4
        obtain ⟨a4, c4, rfl, hp4, hb4⟩ := g4.open
        have B4 := Lib.hid hb4
        have hml := few_parts A B C
        obtain ⟨tf1, tf2⟩ := merge_flat_len A B C (by omega) (by rw [AF.out, BF.out, CF.out]; omega)
        have tl := (merge_len (headN [108]) (footN [114]) A B C).1
        have st := steady_lcs (headN [108]) (footN [114]) A B C
        have ff := flat_mem PartN.base (mergeN A B C)
        rw [(merge_flat A B C).1] at ff
        obtain ⟨M, hM⟩ : ∃ M, mergeN A B C = M := ⟨_, rfl⟩
        have HM := Lib.hid hM.symm
        rw [hM] at hp4 hml tf1 tf2 tl st ff ⊢
        have P4 := Lib.hid (fun (W : World) (h : Below w4.heap.size w4 W) => hp4.kept part_keeps (S' := fun k => k < w4.heap.size) (w' := W) (fun k hk => ⟨hk.2, h.block k hk.2⟩))
        have hMl : M.length ≤ 600 := by omega
        have FF : Hid (∀ p ∈ M, p.base.length ≤ 200) := Lib.hid (fun p hp => Nat.le_trans (ff p hp) h1)
        obtain ⟨L, hL⟩ : ∃ L, textN (headN [108]) (footN [114]) M = L := ⟨_, rfl⟩
        have HLL := Lib.hid hL
        rw [hL] at tf1 tf2 tl st
        have LF := Lib.hid tf1
        have LX := Lib.hid tf2
        have hLl : L.length ≤ 3000 := by omega
        have ST := Lib.hid st
        clear g4 hp4 hb4 hM hL tf1 tf2 st ff hml tl
        have R4 := Lib.hid (Below.refl w4.heap.size w4)
        go_wp2_with fail
        refine (aw_bound HM.out (P4.out w4 R4.out) (fun k hk => hk) (by omega) AX.out BX.out CX.out [108] [114] (by decide) (by decide)).mono ?_
        rintro e w5 ⟨v5, rfl, ho5, hb5⟩
        rw [HLL.out] at ho5
        obtain ⟨cm, hcm⟩ : ∃ q, calmN M = q := ⟨_, rfl⟩
        rw [hcm]
        have B5 := Lib.hid (B4.out.trans (hb5.mono B4.out.size))
        have OL := Lib.hid (fun (W : World) (h : Below w5.heap.size w5 W) => (ownS_c ho5).kept (S' := fun k => k < w5.heap.size) (w' := W) (fun k hk => ⟨hk.2, h.block k hk.2⟩))
        have P5 := Lib.hid (fun (W : World) (h : Below w5.heap.size w5 W) => P4.out W (hb5.trans (h.mono hb5.size)))
        obtain ⟨a5, c5, rfl⟩ := ownS_slice ho5
        have hs45 := hb5.size
        have hs35 := B5.out.size
        have R5 := Lib.hid (Below.refl w5.heap.size w5)
        have TO3 := Lib.hid (fun (W : World) (h : Below w5.heap.size w5 W) => B5.out.trans (h.mono hs35))
        clear ho5 hb5 hcm P4 B4 R4 R3 HLL HM OC CX CF
        obtain ⟨p1, p2, p3, p4⟩ := diff_sizes A B
        obtain ⟨t1, t2⟩ := diff_there A B
        have DC1 := Lib.hid (diff_any _ _ _ _ A B w5 (fun k hk => Nat.lt_of_lt_of_le hk hs35) (fun k hk => Nat.lt_of_lt_of_le hk hs35) (OA.out w5 B5.out) (OB.out w5 B5.out) (by omega) (by omega) AX.out BX.out (small_mul (by omega) (by omega)))
        obtain ⟨D1, hD1⟩ : ∃ D, diffN A B = D := ⟨_, rfl⟩
        rw [hD1] at p1 p2 p3 p4 t1 t2 DC1
        have P41 := Lib.hid p4
        have T11 := Lib.hid (fit_true t1)
        have T12 := Lib.hid t2
        clear p4 t1 t2 hD1
        obtain ⟨q1, q2, q3, q4⟩ := diff_sizes B L
        obtain ⟨t1, t2⟩ := diff_there B L
        have DC2 := Lib.hid (fun (W : World) (h : Below w5.heap.size w5 W) => diff_any _ _ _ _ B L W (fun k hk => Nat.lt_of_lt_of_le hk (TO3.out W h).size) (fun k hk => Nat.lt_of_lt_of_le hk h.size) (OB.out W (TO3.out W h)) (OL.out W h) (by omega) (by omega) BX.out LX.out (mul_200 h2 hLl))
        obtain ⟨D2, hD2⟩ : ∃ D, diffN B L = D := ⟨_, rfl⟩
        rw [hD2] at q1 q2 q3 q4 t1 t2
        have DC2' : Hid (∀ (W : World), Below w5.heap.size w5 W → Calls Try.prog 27 #[.slice a2 B.length c2, .slice a5 L.length c5] W (HunksP W D2)) := Lib.hid (by rw [← hD2]; exact DC2.out)
        have Q42 := Lib.hid q4
        have T21 := Lib.hid (fit_true t1)
        have T22 := Lib.hid t2
        clear q4 t1 t2 hD2 DC2
        go_wp2_with fail
        refine DC1.out.mono ?_
        rintro e w6 ⟨v6, rfl, hh6, hb6⟩
        have B6 := Lib.hid hb6
        have G1 := Lib.hid (fun (W : World) (h : Below w6.heap.size w6 W) => hh6.kept hunk_keeps (S' := fun k => k < w6.heap.size) (w' := W) (fun k hk => ⟨hk.2, h.block k hk.2⟩))
        obtain ⟨a6, c6, rfl⟩ := hh6.shape
        clear hh6 hb6 DC1
        go_wp2_with fail
        refine (DC2'.out w6 B6.out).mono ?_
        rintro e w7 ⟨v7, rfl, hh7, hb7⟩
        have B7 := Lib.hid (B6.out.trans (hb7.mono B6.out.size))
        have B67 := Lib.hid hb7
        have G2 := Lib.hid (fun (W : World) (h : Below w7.heap.size w7 W) => hh7.kept hunk_keeps (S' := fun k => k < w7.heap.size) (w' := W) (fun k hk => ⟨hk.2, h.block k hk.2⟩))
        obtain ⟨a7, c7, rfl⟩ := hh7.shape
        clear hh7 hb7 DC2'
        have hs7 := B7.out.size
        have hs67 := B67.out.size
        have LIT := Lib.hid (strs_lit w7 [[97, 10], [98]] (by decide))
        have BL : Hid (Below w7.heap.size w7 (w7.alloc (.cells #[.string ⟨#[97, 10]⟩, .string ⟨#[98]⟩] 9))) := Lib.hid ((Below.refl _ w7).alloc (Nat.le_refl _) _)
        go_wp2_with fail
        refine (join_any _ _ [[97, 10], [98]] _ (fun k hk => hk) (LIT.out.kept (S' := fun k => k < (w7.alloc (.cells #[.string ⟨#[97, 10]⟩, .string ⟨#[98]⟩] 9)).heap.size) (fun k hk => ⟨by simp; omega, rfl⟩)) (by decide) (by decide)).mono ?_
        rintro e w8 ⟨v8, rfl, hO8, hb8⟩
        have B78 : Hid (Below w7.heap.size w7 w8) := Lib.hid (BL.out.trans (hb8.mono BL.out.size))
        rw [show ([[97, 10], [98]] : List (List UInt8)).flatten = [97, 10, 98] from rfl] at hO8
        obtain ⟨T3, hT3⟩ : ∃ T, ([97, 10, 98] : List UInt8) = T := ⟨_, rfl⟩
        have gl : (T3 == [97, 10, 98]) = true := by rw [← hT3]; decide
        rw [hT3] at hO8
        have C8 := bytes_str (own_c hO8)
        obtain ⟨a8, c8, rfl⟩ := own_slice hO8
        have hs8 := B78.out.size
        clear hO8 hb8 LIT BL hT3
        go_wp2_with fail
        have TO78 := Lib.hid (fun (W : World) (h : Below w8.heap.size w8 W) => B78.out.trans (h.mono hs8))
        have TO58 := Lib.hid (fun (W : World) (h : Below w8.heap.size w8 W) => B7.out.trans ((TO78.out W h).mono hs7))
        have R8 := Lib.hid (Below.refl w8.heap.size w8)
        clear C8 gl
        refine (patch_yes _ _ _ _ A D1 w8 (fun k hk => Nat.lt_of_lt_of_le hk (TO3.out _ (TO58.out _ R8.out)).size) (fun k hk => by have := hs67; omega) (OA.out w8 (TO3.out _ (TO58.out _ R8.out))) (G1.out w8 (B67.out.trans ((TO78.out _ R8.out).mono hs67))) (by omega) (by omega) (fun h hh => by have := (P41.out h hh).2.2.1; omega) (by omega) T11.out).mono ?_
        rintro e w9 ⟨v9, rfl, ho9, hb9⟩
        rw [T12.out] at ho9
        have B9 := Lib.hid hb9
        have hs9 := hb9.size
        have O9 := Lib.hid (fun (W : World) (h : Below w9.heap.size w9 W) => (ownS_c ho9).kept (S' := fun k => k < w9.heap.size) (w' := W) (fun k hk => ⟨hk.2, h.block k hk.2⟩))
        obtain ⟨a9, c9, rfl⟩ := ownS_slice ho9
        clear ho9 hb9 T11 T12 P41 G1
        have R9 := Lib.hid (Below.refl w9.heap.size w9)
        go_wp2_with fail
        refine (patch_yes _ _ _ _ B D2 w9 (fun k hk => hk) (fun k hk => by have := hs8; omega) (O9.out w9 R9.out) (G2.out w9 (TO78.out _ B9.out)) (by omega) (by omega) (fun h hh => by have := (Q42.out h hh).2.2.1; omega) (by omega) T21.out).mono ?_
        rintro e w10 ⟨v10, rfl, ho10, hb10⟩
        rw [T22.out] at ho10
        have B10 := Lib.hid (B9.out.trans (hb10.mono hs9))
        have hs10 := B10.out.size
        have O10 := Lib.hid (fun (W : World) (h : Below w10.heap.size w10 W) => (ownS_c ho10).kept (S' := fun k => k < w10.heap.size) (w' := W) (fun k hk => ⟨hk.2, h.block k hk.2⟩))
        have O910 := Lib.hid (fun (W : World) (h : Below w10.heap.size w10 W) => O9.out W (hb10.trans (h.mono hb10.size)))
        obtain ⟨a10, c10, rfl⟩ := ownS_slice ho10
        have hs910 := hb10.size
        clear ho10 hb10 T21 T22 Q42 G2 O9 R9
        have TO8 := Lib.hid (fun (W : World) (h : Below w10.heap.size w10 W) => B10.out.trans (h.mono hs10))
        have OL10 := Lib.hid (fun (W : World) (h : Below w10.heap.size w10 W) => OL.out W (TO58.out W (TO8.out W h)))
        have OA10 := Lib.hid (fun (W : World) (h : Below w10.heap.size w10 W) => OA.out W (TO3.out W (TO58.out W (TO8.out W h))))
        have BW10 := Lib.hid (fun (W : World) (h : Below w10.heap.size w10 W) => B3.out.trans ((TO3.out W (TO58.out W (TO8.out W h))).mono B3.out.size))
        have PM10 := Lib.hid (fun (W : World) (h : Below w10.heap.size w10 W) => P5.out W (TO58.out W (TO8.out W h)))
        have hle5 : w5.heap.size ≤ w10.heap.size := by omega
        have HF : Hid (∀ W, Below w10.heap.size w10 W → (convert 22 9 (.slice ya y.length yc)).run Try.prog W = .ok (.string ⟨y.toArray⟩) W ∧ Hid (Below w10.heap.size w10 W)) := Lib.hid (fun W hb => ⟨bytes_str (HY.out W (BW10.out W hb)), Lib.hid hb⟩)
        obtain ⟨FL, hFL⟩ : ∃ q, L.flatten = q := ⟨_, rfl⟩
        have hFLl : L.flatten.length ≤ 4194304 := LF.out
        have HFL := Lib.hid hFL
        have HBF := BF
        have hBFl : B.flatten.length ≤ 4194304 := by rw [BF.out]; omega
        clear hFL OL OA P5 TO3 TO58 TO8 TO78 B10 B9 B78 B7 B67 B6 B5 R8 R5 LF OB
        go_upto_region 12 with fail
        have BD : Hid (Below w10.heap.size w10 w10.drew) := Lib.hid (below_dr w10)
        refine wp_region_held_drew (S := (fun W => (convert 22 9 (.slice ya y.length yc)).run Try.prog W = .ok (.string ⟨y.toArray⟩) W ∧ Hid (Below w10.heap.size w10 W))) (by kernel_rfl) (by exact HF.out _ (Hid.out (by assumption))) (fun hHeld => ?_)
        generalize w10.drew = wd at *
        refine wpAnyH_take (i := 0) (oi := ⟨_, _, _, _, _, _⟩) (v := ?_) rfl (by kernel_rfl) (by kernel_rfl) (by kernel_rfl) (fun _ _ _ h => h) (Or.inl ⟨by rfl, ?_⟩) (by assumption) ?_
        rotate_left
        · intro w hSw; (try dsimp only at hSw); first | (go_simp; done) | (go_simp; with_reducible rfl)
        try simp only [Act.put, List.setIfInBounds_toArray, List.set_cons_zero, List.set_cons_succ]
        refine wpAnyH_take (i := 1) (oi := ⟨_, _, _, _, _, _⟩) (v := ?_) rfl (by kernel_rfl) (by kernel_rfl) (by kernel_rfl) (fun _ _ _ h => h) (Or.inl ⟨by rfl, ?_⟩) (by assumption) ?_
        rotate_left
        · intro w hSw; (try dsimp only at hSw); first | (go_simp; done) | (go_simp; with_reducible rfl)
        try simp only [Act.put, List.setIfInBounds_toArray, List.set_cons_zero, List.set_cons_succ]
        refine wpAnyH_take (i := 2) (oi := ⟨_, _, _, _, _, _⟩) (v := ?_) rfl (by kernel_rfl) (by kernel_rfl) (by kernel_rfl) (fun _ _ _ h => h) (Or.inl ⟨by rfl, ?_⟩) (by assumption) ?_
        rotate_left
        · intro w hSw; (try dsimp only at hSw); first | (go_simp; done) | (go_simp; with_reducible rfl)
        try simp only [Act.put, List.setIfInBounds_toArray, List.set_cons_zero, List.set_cons_succ]
        refine wpAnyH_take (i := 3) (oi := ⟨_, _, _, _, _, _⟩) (v := ?_) rfl (by kernel_rfl) (by kernel_rfl) (by kernel_rfl) (fun _ _ _ h => h) (Or.inl ⟨by rfl, ?_⟩) (by assumption) ?_
        rotate_left
        · intro w hSw; (try dsimp only at hSw); first | (go_simp; done) | (go_simp; with_reducible rfl)
        try simp only [Act.put, List.setIfInBounds_toArray, List.set_cons_zero, List.set_cons_succ]
        refine wpAnyH_take (i := 4) (oi := ⟨_, _, _, _, _, _⟩) (v := ?_) rfl (by kernel_rfl) (by kernel_rfl) (by kernel_rfl) (fun _ _ _ h => h) (Or.inl ⟨by rfl, ?_⟩) (by assumption) ?_
        rotate_left
        · intro w hSw; (try dsimp only at hSw); first | (go_simp; done) | (go_simp; with_reducible rfl)
        try simp only [Act.put, List.setIfInBounds_toArray, List.set_cons_zero, List.set_cons_succ]
        refine wpAnyH_take (i := 5) (oi := ⟨_, _, _, _, _, _⟩) (v := ?_) rfl (by kernel_rfl) (by kernel_rfl) (by kernel_rfl) (fun _ _ _ h => h) (Or.inl ⟨by rfl, ?_⟩) (by assumption) ?_
        rotate_left
        · intro w hSw; (try dsimp only at hSw); first | (go_simp; done) | (go_simp; with_reducible rfl)
        try simp only [Act.put, List.setIfInBounds_toArray, List.set_cons_zero, List.set_cons_succ]
        refine wpAnyH_take (i := 6) (oi := ⟨_, _, _, _, _, _⟩) (v := ?_) rfl (by kernel_rfl) (by kernel_rfl) (by kernel_rfl) (fun _ _ _ h => h) (Or.inl ⟨by rfl, ?_⟩) (by assumption) ?_
        rotate_left
        · intro w hSw; (try dsimp only at hSw); first | (go_simp; done) | (go_simp; with_reducible rfl)
        try simp only [Act.put, List.setIfInBounds_toArray, List.set_cons_zero, List.set_cons_succ]
        refine wpAnyH_take (i := 7) (oi := ⟨_, _, _, _, _, _⟩) (v := ?_) rfl (by kernel_rfl) (by kernel_rfl) (by kernel_rfl) (fun _ _ _ h => h) (Or.inl ⟨by rfl, ?_⟩) (by assumption) ?_
        rotate_left
        · intro w hSw; (try dsimp only at hSw); first | (go_simp; done) | (go_simp; with_reducible rfl)
        try simp only [Act.put, List.setIfInBounds_toArray, List.set_cons_zero, List.set_cons_succ]
        refine wpAnyH_take (i := 10) (oi := ⟨_, _, _, _, _, _⟩) (v := ?_) rfl (by kernel_rfl) (by kernel_rfl) (by kernel_rfl) (fun _ _ _ h => h) (Or.inl ⟨by rfl, ?_⟩) (by assumption) ?_
        rotate_left
        · intro w hSw; (try dsimp only at hSw); first | (go_simp; done) | (go_simp; with_reducible rfl)
        try simp only [Act.put, List.setIfInBounds_toArray, List.set_cons_zero, List.set_cons_succ]
        refine wpAnyH_ready (rs := [8]) (by kernel_rfl) (by simp) ?_
        refine AllReadyH.cons (o := ⟨_, _, _, _, _, _⟩) rfl (fun K hK => ?_) AllReadyH.nil
        go_simp
        refine (join_any _ _ L wd (fun k hk => Nat.lt_of_lt_of_le hk BD.out.size) (O10.out _ BD.out) (by omega) hFLl).mono ?_
        rintro e w11 ⟨v11, rfl, hO, hb⟩
        rw [HFL.out] at hO
        have BJ11 : Hid (Below w10.heap.size w10 w11) := Lib.hid (BD.out.trans (hb.mono BD.out.size))
        have CJ11 := Lib.hid (own_c hO)
        obtain ⟨j11a, j11c, rfl⟩ := own_slice hO
        clear hO hb BD
        try go_wp2_with fail
        refine hK.out _ _ (by exact HF.out _ (Hid.out (by assumption))) (fun hHeld => ?_)
        clear hK K
        try simp only [Act.put, List.setIfInBounds_toArray, List.set_cons_zero, List.set_cons_succ]
        refine wpAnyH_ready (rs := [9, 11]) (by kernel_rfl) (by simp) ?_
        refine AllReadyH.cons (o := ⟨_, _, _, _, _, _⟩) rfl (fun K hK => ?_) (AllReadyH.cons (o := ⟨_, _, _, _, _, _⟩) rfl (fun K hK => ?_) AllReadyH.nil)
        · have hcv := bytes_str CJ11.out
          go_simp
          clear hcv
          refine hK.out _ _ (by exact HF.out _ (Hid.out (by assumption))) (fun hHeld => ?_)
          clear hK K
          try simp only [Act.put, List.setIfInBounds_toArray, List.set_cons_zero, List.set_cons_succ]
          refine wpAnyH_ready (rs := [11]) (by kernel_rfl) (by simp) ?_
          refine AllReadyH.cons (o := ⟨_, _, _, _, _, _⟩) rfl (fun K hK => ?_) AllReadyH.nil
          go_simp
          refine (join_any _ _ L w11 (fun k hk => Nat.lt_of_lt_of_le hk (Nat.le_trans hle5 BJ11.out.size)) (OL10.out _ BJ11.out) (by omega) hFLl).mono ?_
          rintro e w12 ⟨v12, rfl, hO, hb⟩
          rw [HFL.out] at hO
          have BJ12 : Hid (Below w10.heap.size w10 w12) := Lib.hid (BJ11.out.trans (hb.mono BJ11.out.size))
          have CJ12 := Lib.hid (own_c hO)
          obtain ⟨j12a, j12c, rfl⟩ := own_slice hO
          clear hO hb BJ11
          try go_wp2_with fail
          refine hK.out _ _ (by exact HF.out _ (Hid.out (by assumption))) (fun hHeld => ?_)
          clear hK K
          try simp only [Act.put, List.setIfInBounds_toArray, List.set_cons_zero, List.set_cons_succ]
          refine wpAnyH_ready (rs := [12]) (by kernel_rfl) (by simp) ?_
          refine AllReadyH.cons (o := ⟨_, _, _, _, _, _⟩) rfl (fun K hK => ?_) AllReadyH.nil
          have hcv := bytes_str CJ12.out
          go_simp
          clear hcv
          refine hK.out _ _ (by exact HF.out _ (Hid.out (by assumption))) (fun hHeld => ?_)
          clear hK K
          try simp only [Act.put, List.setIfInBounds_toArray, List.set_cons_zero, List.set_cons_succ]
          refine wpAnyH_take (i := 13) (oi := ⟨_, _, _, _, _, _⟩) (v := ?_) rfl (by kernel_rfl) (by kernel_rfl) (by kernel_rfl) (fun _ _ _ h => h) (Or.inl ⟨by rfl, ?_⟩) (by assumption) ?_
          rotate_left
          · intro w hSw; (try dsimp only at hSw); first | (go_simp; done) | (go_simp; with_reducible rfl)
          try simp only [Act.put, List.setIfInBounds_toArray, List.set_cons_zero, List.set_cons_succ]
          refine wpAnyH_take (i := 14) (oi := ⟨_, _, _, _, _, _⟩) (v := ?_) rfl (by kernel_rfl) (by kernel_rfl) (by kernel_rfl) (fun _ _ _ h => h) (Or.inl ⟨by rfl, ?_⟩) (by assumption) ?_
          rotate_left
          · intro w hSw; (try dsimp only at hSw); first | (go_simp; done) | (go_simp; with_reducible rfl)
          try simp only [Act.put, List.setIfInBounds_toArray, List.set_cons_zero, List.set_cons_succ]
          refine wpAnyH_take (i := 15) (oi := ⟨_, _, _, _, _, _⟩) (v := ?_) rfl (by kernel_rfl) (by kernel_rfl) (by kernel_rfl) (fun _ _ _ h => h) (Or.inl ⟨by rfl, ?_⟩) (by assumption) ?_
          rotate_left
          · intro w hSw; (try dsimp only at hSw); first | (go_simp; done) | (go_simp; with_reducible rfl)
          try simp only [Act.put, List.setIfInBounds_toArray, List.set_cons_zero, List.set_cons_succ]
          refine wpAnyH_take (i := 16) (oi := ⟨_, _, _, _, _, _⟩) (v := ?_) rfl (by kernel_rfl) (by kernel_rfl) (by kernel_rfl) (fun _ _ _ h => h) (Or.inl ⟨by rfl, ?_⟩) (by assumption) ?_
          rotate_left
          · intro w hSw; (try dsimp only at hSw); first | (go_simp; done) | (go_simp; with_reducible rfl)
          try simp only [Act.put, List.setIfInBounds_toArray, List.set_cons_zero, List.set_cons_succ]
          refine wpAnyH_take (i := 19) (oi := ⟨_, _, _, _, _, _⟩) (v := ?_) rfl (by kernel_rfl) (by kernel_rfl) (by kernel_rfl) (fun _ _ _ h => h) (Or.inl ⟨by rfl, ?_⟩) (by assumption) ?_
          rotate_left
          · intro w hSw; (try dsimp only at hSw); first | (go_simp; done) | (go_simp; with_reducible rfl)
          try simp only [Act.put, List.setIfInBounds_toArray, List.set_cons_zero, List.set_cons_succ]
          refine wpAnyH_take (i := 20) (oi := ⟨_, _, _, _, _, _⟩) (v := ?_) rfl (by kernel_rfl) (by kernel_rfl) (by kernel_rfl) (fun _ _ _ h => h) (Or.inl ⟨by rfl, ?_⟩) (by assumption) ?_
          rotate_left
          · intro w hSw; (try dsimp only at hSw); first | (go_simp; done) | (go_simp; with_reducible rfl)
          try simp only [Act.put, List.setIfInBounds_toArray, List.set_cons_zero, List.set_cons_succ]
          refine wpAnyH_ready (rs := [17]) (by kernel_rfl) (by simp) ?_
          refine AllReadyH.cons (o := ⟨_, _, _, _, _, _⟩) rfl (fun K hK => ?_) AllReadyH.nil
          go_simp
          refine (join_any _ _ B w12 (fun k hk => Nat.lt_of_lt_of_le hk (Nat.le_trans hs910 BJ12.out.size)) (O910.out _ BJ12.out) (by omega) hBFl).mono ?_
          rintro e w13 ⟨v13, rfl, hO, hb⟩
          rw [HBF.out] at hO
          have BJ13 : Hid (Below w10.heap.size w10 w13) := Lib.hid (BJ12.out.trans (hb.mono BJ12.out.size))
          have CJ13 := Lib.hid (own_c hO)
          obtain ⟨j13a, j13c, rfl⟩ := own_slice hO
          clear hO hb BJ12
          try go_wp2_with fail
          refine hK.out _ _ (by exact HF.out _ (Hid.out (by assumption))) (fun hHeld => ?_)
          clear hK K
          try simp only [Act.put, List.setIfInBounds_toArray, List.set_cons_zero, List.set_cons_succ]
          refine wpAnyH_ready (rs := [18]) (by kernel_rfl) (by simp) ?_
          refine AllReadyH.cons (o := ⟨_, _, _, _, _, _⟩) rfl (fun K hK => ?_) AllReadyH.nil
          have hcv := bytes_str CJ13.out
          go_simp
          clear hcv
          refine hK.out _ _ (by exact HF.out _ (Hid.out (by assumption))) (fun hHeld => ?_)
          clear hK K
          try simp only [Act.put, List.setIfInBounds_toArray, List.set_cons_zero, List.set_cons_succ]
          refine wpAnyH_take (i := 21) (oi := ⟨_, _, _, _, _, _⟩) (v := ?_) rfl (by kernel_rfl) (by kernel_rfl) (by kernel_rfl) (fun _ _ _ h => h) (Or.inl ⟨by rfl, ?_⟩) (by assumption) ?_
          rotate_left
          · intro w hSw; (try dsimp only at hSw); first | (go_simp; done) | (go_simp; with_reducible rfl)
          try simp only [Act.put, List.setIfInBounds_toArray, List.set_cons_zero, List.set_cons_succ]
          refine wpAnyH_take (i := 22) (oi := ⟨_, _, _, _, _, _⟩) (v := ?_) rfl (by kernel_rfl) (by kernel_rfl) (by kernel_rfl) (fun _ _ _ h => h) (Or.inl ⟨by rfl, ?_⟩) (by assumption) ?_
          rotate_left
          · intro w hSw; (try dsimp only at hSw); first | (go_simp; done) | (go_simp; with_reducible rfl)
          try simp only [Act.put, List.setIfInBounds_toArray, List.set_cons_zero, List.set_cons_succ]
          refine wpAnyH_done (by kernel_rfl) ?_ _
          clear hHeld
          go_wp2_with fail
          go_loopw [22, 123] (fun t n wr => ∃ k f : Nat, k ≤ M.length ∧ n = .int .i64 k ∧ t = .int .i64 f ∧ f ≤ 200 * k ∧ Hid (fastLen (M.take k) = f) ∧ Hid (Below w10.heap.size w10 wr)) (fun _ n _ => M.length - (intOf n).toNat)
          case atStart => exact ⟨0, 0, Nat.zero_le _, rfl, rfl, by omega, Lib.hid rfl, BJ13⟩
          case round =>
            obtain ⟨k, f, hk, rfl, rfl, hf, hE, hW⟩ := hrel
            by_cases hlt : k < M.length
            · obtain ⟨g, og, rfl, hgS, _, _, hcs⟩ := part_at (PM10.out wr hW.out) (by omega)
              obtain ⟨p, hh⟩ : ∃ p, M[k]? = some p := ⟨_, List.getElem?_eq_getElem hlt⟩
              obtain ⟨q1a, q1c, q2a, q2c, q3a, q3c, z0, z1, z2, z3, _, _, _⟩ := hcs k p hh
              have hpb := FF.out p (List.mem_of_getElem? hh)
              have HT := Lib.hid (fastLen_take hh)
              rw [hE.out] at HT
              obtain ⟨kd, l1, l2, l3⟩ := p
              simp only at z0 z1 z2 z3 hpb HT
              have hsz := hW.out.size
              have W2 : Hid (Below w10.heap.size w10 (wr.alloc (.cells #[.int .i64 kd, .slice q1a l1.length q1c, .slice q2a l2.length q2c, .slice q3a l3.length q3c] 73))) := Lib.hid (hW.out.alloc hsz _)
              have HBX := Lib.hid (new_five wr #[.int .i64 kd, .slice q1a l1.length q1c, .slice q2a l2.length q2c, .slice q3a l3.length q3c] 73)
              clear hcs hh hE
              go_upto_region 18 with fail
              obtain ⟨b0, b1, b2, b3⟩ := box4 HBX.out rfl
              clear z0 z1 z2 z3 HBX
              generalize wr.alloc (.cells #[.int .i64 kd, .slice q1a l1.length q1c, .slice q2a l2.length q2c, .slice q3a l3.length q3c] 73) = wp at *
              by_cases hkd : kd = 0
              · have hkb : (kd == 0) = true := by rw [beq_iff_eq]; exact hkd
                have HT2 : Hid (fastLen (M.take (k + 1)) = f + l1.length) := Lib.hid (by rw [HT.out, if_pos hkd])
                clear hkd HT
                go_wp2_with fail
                go_roundw
                case rel => exact ⟨k + 1, f + l1.length, by omega, by go_num, by go_num, by omega, HT2, W2⟩
                case measure => simp [intOf]; omega
              · have hkb : (kd == 0) = false := by rw [beq_eq_false_iff_ne]; exact hkd
                have HT2 : Hid (fastLen (M.take (k + 1)) = f) := Lib.hid (by rw [HT.out, if_neg hkd]; rfl)
                clear hkd HT
                go_wp2_with fail
                go_roundw
                case rel => exact ⟨k + 1, f, by omega, by go_num, rfl, by omega, HT2, W2⟩
                case measure => simp [intOf]; omega
            · have HFA : Hid (f ≤ lcs A L) := Lib.hid (by
                have h := hE.out
                rw [List.take_of_length_le (by omega), fastLen_steady] at h
                rw [← h]; exact ST.out)
              have CP := Lib.hid (pairs_any _ _ _ _ A L wr (fun k hk => Nat.lt_of_lt_of_le hk (by have := hW.out.size; omega)) (fun k hk => Nat.lt_of_lt_of_le hk (by have := hW.out.size; omega)) (OA10.out wr hW.out) (OL10.out wr hW.out) (by omega) (by omega) AX.out LX.out (mul_200 h1 hLl))
              clear hE
              go_wp2_with fail
              refine CP.out.mono ?_
              rintro e w20 ⟨v20, rfl, ho20, hb20⟩
              have hlen := pairsN_len A L 0 0
              obtain ⟨PL, hPL⟩ : ∃ P, pairsN A 0 L 0 = P := ⟨_, rfl⟩
              rw [hPL] at ho20 hlen
              obtain ⟨a20, c20, rfl⟩ := ownP_slice ho20
              have hge : f ≤ PL.length := by rw [hlen]; exact HFA.out
              have B20 := Lib.hid (BW10.out _ (hW.out.trans (hb20.mono hW.out.size)))
              clear hlen hPL ho20 hb20 CP
              cases cm
              all_goals
                go_wp2_with fail
                go_ret
                exact ⟨rfl, B20.out⟩
        · go_simp
          refine (join_any _ _ L w11 (fun k hk => Nat.lt_of_lt_of_le hk (Nat.le_trans hle5 BJ11.out.size)) (OL10.out _ BJ11.out) (by omega) hFLl).mono ?_
          rintro e w12 ⟨v12, rfl, hO, hb⟩
          rw [HFL.out] at hO
          have BJ12 : Hid (Below w10.heap.size w10 w12) := Lib.hid (BJ11.out.trans (hb.mono BJ11.out.size))
          have CJ12 := Lib.hid (own_c hO)
          obtain ⟨j12a, j12c, rfl⟩ := own_slice hO
          have CJ11' := Lib.hid (CJ11.out.kept (S' := fun _ => True) (w' := w12) (fun k hk => ⟨trivial, hb.block k hk.2⟩))
          clear CJ11
          have CJ11 := CJ11'
          clear CJ11'
          clear hO hb BJ11
          try go_wp2_with fail
          refine hK.out _ _ (by exact HF.out _ (Hid.out (by assumption))) (fun hHeld => ?_)
          clear hK K
          try simp only [Act.put, List.setIfInBounds_toArray, List.set_cons_zero, List.set_cons_succ]
          refine wpAnyH_ready (rs := [9, 12]) (by kernel_rfl) (by simp) ?_
          refine AllReadyH.cons (o := ⟨_, _, _, _, _, _⟩) rfl (fun K hK => ?_) (AllReadyH.cons (o := ⟨_, _, _, _, _, _⟩) rfl (fun K hK => ?_) AllReadyH.nil)
          · have hcv := bytes_str CJ11.out
            go_simp
            clear hcv
            refine hK.out _ _ (by exact HF.out _ (Hid.out (by assumption))) (fun hHeld => ?_)
            clear hK K
            try simp only [Act.put, List.setIfInBounds_toArray, List.set_cons_zero, List.set_cons_succ]
            refine wpAnyH_ready (rs := [12]) (by kernel_rfl) (by simp) ?_
            refine AllReadyH.cons (o := ⟨_, _, _, _, _, _⟩) rfl (fun K hK => ?_) AllReadyH.nil
            have hcv := bytes_str CJ12.out
            go_simp
            clear hcv
            refine hK.out _ _ (by exact HF.out _ (Hid.out (by assumption))) (fun hHeld => ?_)
            clear hK K
            try simp only [Act.put, List.setIfInBounds_toArray, List.set_cons_zero, List.set_cons_succ]
            refine wpAnyH_take (i := 13) (oi := ⟨_, _, _, _, _, _⟩) (v := ?_) rfl (by kernel_rfl) (by kernel_rfl) (by kernel_rfl) (fun _ _ _ h => h) (Or.inl ⟨by rfl, ?_⟩) (by assumption) ?_
            rotate_left
            · intro w hSw; (try dsimp only at hSw); first | (go_simp; done) | (go_simp; with_reducible rfl)
            try simp only [Act.put, List.setIfInBounds_toArray, List.set_cons_zero, List.set_cons_succ]
            refine wpAnyH_take (i := 14) (oi := ⟨_, _, _, _, _, _⟩) (v := ?_) rfl (by kernel_rfl) (by kernel_rfl) (by kernel_rfl) (fun _ _ _ h => h) (Or.inl ⟨by rfl, ?_⟩) (by assumption) ?_
            rotate_left
            · intro w hSw; (try dsimp only at hSw); first | (go_simp; done) | (go_simp; with_reducible rfl)
            try simp only [Act.put, List.setIfInBounds_toArray, List.set_cons_zero, List.set_cons_succ]
            refine wpAnyH_take (i := 15) (oi := ⟨_, _, _, _, _, _⟩) (v := ?_) rfl (by kernel_rfl) (by kernel_rfl) (by kernel_rfl) (fun _ _ _ h => h) (Or.inl ⟨by rfl, ?_⟩) (by assumption) ?_
            rotate_left
            · intro w hSw; (try dsimp only at hSw); first | (go_simp; done) | (go_simp; with_reducible rfl)
            try simp only [Act.put, List.setIfInBounds_toArray, List.set_cons_zero, List.set_cons_succ]
            refine wpAnyH_take (i := 16) (oi := ⟨_, _, _, _, _, _⟩) (v := ?_) rfl (by kernel_rfl) (by kernel_rfl) (by kernel_rfl) (fun _ _ _ h => h) (Or.inl ⟨by rfl, ?_⟩) (by assumption) ?_
            rotate_left
            · intro w hSw; (try dsimp only at hSw); first | (go_simp; done) | (go_simp; with_reducible rfl)
            try simp only [Act.put, List.setIfInBounds_toArray, List.set_cons_zero, List.set_cons_succ]
            refine wpAnyH_take (i := 19) (oi := ⟨_, _, _, _, _, _⟩) (v := ?_) rfl (by kernel_rfl) (by kernel_rfl) (by kernel_rfl) (fun _ _ _ h => h) (Or.inl ⟨by rfl, ?_⟩) (by assumption) ?_
            rotate_left
            · intro w hSw; (try dsimp only at hSw); first | (go_simp; done) | (go_simp; with_reducible rfl)
            try simp only [Act.put, List.setIfInBounds_toArray, List.set_cons_zero, List.set_cons_succ]
            refine wpAnyH_take (i := 20) (oi := ⟨_, _, _, _, _, _⟩) (v := ?_) rfl (by kernel_rfl) (by kernel_rfl) (by kernel_rfl) (fun _ _ _ h => h) (Or.inl ⟨by rfl, ?_⟩) (by assumption) ?_
            rotate_left
            · intro w hSw; (try dsimp only at hSw); first | (go_simp; done) | (go_simp; with_reducible rfl)
            try simp only [Act.put, List.setIfInBounds_toArray, List.set_cons_zero, List.set_cons_succ]
            refine wpAnyH_ready (rs := [17]) (by kernel_rfl) (by simp) ?_
            refine AllReadyH.cons (o := ⟨_, _, _, _, _, _⟩) rfl (fun K hK => ?_) AllReadyH.nil
            go_simp
            refine (join_any _ _ B w12 (fun k hk => Nat.lt_of_lt_of_le hk (Nat.le_trans hs910 BJ12.out.size)) (O910.out _ BJ12.out) (by omega) hBFl).mono ?_
            rintro e w13 ⟨v13, rfl, hO, hb⟩
            rw [HBF.out] at hO
            have BJ13 : Hid (Below w10.heap.size w10 w13) := Lib.hid (BJ12.out.trans (hb.mono BJ12.out.size))
            have CJ13 := Lib.hid (own_c hO)
            obtain ⟨j13a, j13c, rfl⟩ := own_slice hO
            clear hO hb BJ12
            try go_wp2_with fail
            refine hK.out _ _ (by exact HF.out _ (Hid.out (by assumption))) (fun hHeld => ?_)
            clear hK K
            try simp only [Act.put, List.setIfInBounds_toArray, List.set_cons_zero, List.set_cons_succ]
            refine wpAnyH_ready (rs := [18]) (by kernel_rfl) (by simp) ?_
            refine AllReadyH.cons (o := ⟨_, _, _, _, _, _⟩) rfl (fun K hK => ?_) AllReadyH.nil
            have hcv := bytes_str CJ13.out
            go_simp
            clear hcv
            refine hK.out _ _ (by exact HF.out _ (Hid.out (by assumption))) (fun hHeld => ?_)
            clear hK K
            try simp only [Act.put, List.setIfInBounds_toArray, List.set_cons_zero, List.set_cons_succ]
            refine wpAnyH_take (i := 21) (oi := ⟨_, _, _, _, _, _⟩) (v := ?_) rfl (by kernel_rfl) (by kernel_rfl) (by kernel_rfl) (fun _ _ _ h => h) (Or.inl ⟨by rfl, ?_⟩) (by assumption) ?_
            rotate_left
            · intro w hSw; (try dsimp only at hSw); first | (go_simp; done) | (go_simp; with_reducible rfl)
            try simp only [Act.put, List.setIfInBounds_toArray, List.set_cons_zero, List.set_cons_succ]
            refine wpAnyH_take (i := 22) (oi := ⟨_, _, _, _, _, _⟩) (v := ?_) rfl (by kernel_rfl) (by kernel_rfl) (by kernel_rfl) (fun _ _ _ h => h) (Or.inl ⟨by rfl, ?_⟩) (by assumption) ?_
            rotate_left
            · intro w hSw; (try dsimp only at hSw); first | (go_simp; done) | (go_simp; with_reducible rfl)
            try simp only [Act.put, List.setIfInBounds_toArray, List.set_cons_zero, List.set_cons_succ]
            refine wpAnyH_done (by kernel_rfl) ?_ _
            clear hHeld
            go_wp2_with fail
            go_loopw [22, 123] (fun t n wr => ∃ k f : Nat, k ≤ M.length ∧ n = .int .i64 k ∧ t = .int .i64 f ∧ f ≤ 200 * k ∧ Hid (fastLen (M.take k) = f) ∧ Hid (Below w10.heap.size w10 wr)) (fun _ n _ => M.length - (intOf n).toNat)
            case atStart => exact ⟨0, 0, Nat.zero_le _, rfl, rfl, by omega, Lib.hid rfl, BJ13⟩
            case round =>
              obtain ⟨k, f, hk, rfl, rfl, hf, hE, hW⟩ := hrel
              by_cases hlt : k < M.length
              · obtain ⟨g, og, rfl, hgS, _, _, hcs⟩ := part_at (PM10.out wr hW.out) (by omega)
                obtain ⟨p, hh⟩ : ∃ p, M[k]? = some p := ⟨_, List.getElem?_eq_getElem hlt⟩
                obtain ⟨q1a, q1c, q2a, q2c, q3a, q3c, z0, z1, z2, z3, _, _, _⟩ := hcs k p hh
                have hpb := FF.out p (List.mem_of_getElem? hh)
                have HT := Lib.hid (fastLen_take hh)
                rw [hE.out] at HT
                obtain ⟨kd, l1, l2, l3⟩ := p
                simp only at z0 z1 z2 z3 hpb HT
                have hsz := hW.out.size
                have W2 : Hid (Below w10.heap.size w10 (wr.alloc (.cells #[.int .i64 kd, .slice q1a l1.length q1c, .slice q2a l2.length q2c, .slice q3a l3.length q3c] 73))) := Lib.hid (hW.out.alloc hsz _)
                have HBX := Lib.hid (new_five wr #[.int .i64 kd, .slice q1a l1.length q1c, .slice q2a l2.length q2c, .slice q3a l3.length q3c] 73)
                clear hcs hh hE
                go_upto_region 18 with fail
                obtain ⟨b0, b1, b2, b3⟩ := box4 HBX.out rfl
                clear z0 z1 z2 z3 HBX
                generalize wr.alloc (.cells #[.int .i64 kd, .slice q1a l1.length q1c, .slice q2a l2.length q2c, .slice q3a l3.length q3c] 73) = wp at *
                by_cases hkd : kd = 0
                · have hkb : (kd == 0) = true := by rw [beq_iff_eq]; exact hkd
                  have HT2 : Hid (fastLen (M.take (k + 1)) = f + l1.length) := Lib.hid (by rw [HT.out, if_pos hkd])
                  clear hkd HT
                  go_wp2_with fail
                  go_roundw
                  case rel => exact ⟨k + 1, f + l1.length, by omega, by go_num, by go_num, by omega, HT2, W2⟩
                  case measure => simp [intOf]; omega
                · have hkb : (kd == 0) = false := by rw [beq_eq_false_iff_ne]; exact hkd
                  have HT2 : Hid (fastLen (M.take (k + 1)) = f) := Lib.hid (by rw [HT.out, if_neg hkd]; rfl)
                  clear hkd HT
                  go_wp2_with fail
                  go_roundw
                  case rel => exact ⟨k + 1, f, by omega, by go_num, rfl, by omega, HT2, W2⟩
                  case measure => simp [intOf]; omega
              · have HFA : Hid (f ≤ lcs A L) := Lib.hid (by
                  have h := hE.out
                  rw [List.take_of_length_le (by omega), fastLen_steady] at h
                  rw [← h]; exact ST.out)
                have CP := Lib.hid (pairs_any _ _ _ _ A L wr (fun k hk => Nat.lt_of_lt_of_le hk (by have := hW.out.size; omega)) (fun k hk => Nat.lt_of_lt_of_le hk (by have := hW.out.size; omega)) (OA10.out wr hW.out) (OL10.out wr hW.out) (by omega) (by omega) AX.out LX.out (mul_200 h1 hLl))
                clear hE
                go_wp2_with fail
                refine CP.out.mono ?_
                rintro e w20 ⟨v20, rfl, ho20, hb20⟩
                have hlen := pairsN_len A L 0 0
                obtain ⟨PL, hPL⟩ : ∃ P, pairsN A 0 L 0 = P := ⟨_, rfl⟩
                rw [hPL] at ho20 hlen
                obtain ⟨a20, c20, rfl⟩ := ownP_slice ho20
                have hge : f ≤ PL.length := by rw [hlen]; exact HFA.out
                have B20 := Lib.hid (BW10.out _ (hW.out.trans (hb20.mono hW.out.size)))
                clear hlen hPL ho20 hb20 CP
                cases cm
                all_goals
                  go_wp2_with fail
                  go_ret
                  exact ⟨rfl, B20.out⟩
          · have hcv := bytes_str CJ12.out
            go_simp
            clear hcv
            refine hK.out _ _ (by exact HF.out _ (Hid.out (by assumption))) (fun hHeld => ?_)
            clear hK K
            try simp only [Act.put, List.setIfInBounds_toArray, List.set_cons_zero, List.set_cons_succ]
            refine wpAnyH_ready (rs := [9]) (by kernel_rfl) (by simp) ?_
            refine AllReadyH.cons (o := ⟨_, _, _, _, _, _⟩) rfl (fun K hK => ?_) AllReadyH.nil
            have hcv := bytes_str CJ11.out
            go_simp
            clear hcv
            refine hK.out _ _ (by exact HF.out _ (Hid.out (by assumption))) (fun hHeld => ?_)
            clear hK K
            try simp only [Act.put, List.setIfInBounds_toArray, List.set_cons_zero, List.set_cons_succ]
            refine wpAnyH_take (i := 13) (oi := ⟨_, _, _, _, _, _⟩) (v := ?_) rfl (by kernel_rfl) (by kernel_rfl) (by kernel_rfl) (fun _ _ _ h => h) (Or.inl ⟨by rfl, ?_⟩) (by assumption) ?_
            rotate_left
            · intro w hSw; (try dsimp only at hSw); first | (go_simp; done) | (go_simp; with_reducible rfl)
            try simp only [Act.put, List.setIfInBounds_toArray, List.set_cons_zero, List.set_cons_succ]
            refine wpAnyH_take (i := 14) (oi := ⟨_, _, _, _, _, _⟩) (v := ?_) rfl (by kernel_rfl) (by kernel_rfl) (by kernel_rfl) (fun _ _ _ h => h) (Or.inl ⟨by rfl, ?_⟩) (by assumption) ?_
            rotate_left
            · intro w hSw; (try dsimp only at hSw); first | (go_simp; done) | (go_simp; with_reducible rfl)
            try simp only [Act.put, List.setIfInBounds_toArray, List.set_cons_zero, List.set_cons_succ]
            refine wpAnyH_take (i := 15) (oi := ⟨_, _, _, _, _, _⟩) (v := ?_) rfl (by kernel_rfl) (by kernel_rfl) (by kernel_rfl) (fun _ _ _ h => h) (Or.inl ⟨by rfl, ?_⟩) (by assumption) ?_
            rotate_left
            · intro w hSw; (try dsimp only at hSw); first | (go_simp; done) | (go_simp; with_reducible rfl)
            try simp only [Act.put, List.setIfInBounds_toArray, List.set_cons_zero, List.set_cons_succ]
            refine wpAnyH_take (i := 16) (oi := ⟨_, _, _, _, _, _⟩) (v := ?_) rfl (by kernel_rfl) (by kernel_rfl) (by kernel_rfl) (fun _ _ _ h => h) (Or.inl ⟨by rfl, ?_⟩) (by assumption) ?_
            rotate_left
            · intro w hSw; (try dsimp only at hSw); first | (go_simp; done) | (go_simp; with_reducible rfl)
            try simp only [Act.put, List.setIfInBounds_toArray, List.set_cons_zero, List.set_cons_succ]
            refine wpAnyH_take (i := 19) (oi := ⟨_, _, _, _, _, _⟩) (v := ?_) rfl (by kernel_rfl) (by kernel_rfl) (by kernel_rfl) (fun _ _ _ h => h) (Or.inl ⟨by rfl, ?_⟩) (by assumption) ?_
            rotate_left
            · intro w hSw; (try dsimp only at hSw); first | (go_simp; done) | (go_simp; with_reducible rfl)
            try simp only [Act.put, List.setIfInBounds_toArray, List.set_cons_zero, List.set_cons_succ]
            refine wpAnyH_take (i := 20) (oi := ⟨_, _, _, _, _, _⟩) (v := ?_) rfl (by kernel_rfl) (by kernel_rfl) (by kernel_rfl) (fun _ _ _ h => h) (Or.inl ⟨by rfl, ?_⟩) (by assumption) ?_
            rotate_left
            · intro w hSw; (try dsimp only at hSw); first | (go_simp; done) | (go_simp; with_reducible rfl)
            try simp only [Act.put, List.setIfInBounds_toArray, List.set_cons_zero, List.set_cons_succ]
            refine wpAnyH_ready (rs := [17]) (by kernel_rfl) (by simp) ?_
            refine AllReadyH.cons (o := ⟨_, _, _, _, _, _⟩) rfl (fun K hK => ?_) AllReadyH.nil
            go_simp
            refine (join_any _ _ B w12 (fun k hk => Nat.lt_of_lt_of_le hk (Nat.le_trans hs910 BJ12.out.size)) (O910.out _ BJ12.out) (by omega) hBFl).mono ?_
            rintro e w13 ⟨v13, rfl, hO, hb⟩
            rw [HBF.out] at hO
            have BJ13 : Hid (Below w10.heap.size w10 w13) := Lib.hid (BJ12.out.trans (hb.mono BJ12.out.size))
            have CJ13 := Lib.hid (own_c hO)
            obtain ⟨j13a, j13c, rfl⟩ := own_slice hO
            clear hO hb BJ12
            try go_wp2_with fail
            refine hK.out _ _ (by exact HF.out _ (Hid.out (by assumption))) (fun hHeld => ?_)
            clear hK K
            try simp only [Act.put, List.setIfInBounds_toArray, List.set_cons_zero, List.set_cons_succ]
            refine wpAnyH_ready (rs := [18]) (by kernel_rfl) (by simp) ?_
            refine AllReadyH.cons (o := ⟨_, _, _, _, _, _⟩) rfl (fun K hK => ?_) AllReadyH.nil
            have hcv := bytes_str CJ13.out
            go_simp
            clear hcv
            refine hK.out _ _ (by exact HF.out _ (Hid.out (by assumption))) (fun hHeld => ?_)
            clear hK K
            try simp only [Act.put, List.setIfInBounds_toArray, List.set_cons_zero, List.set_cons_succ]
            refine wpAnyH_take (i := 21) (oi := ⟨_, _, _, _, _, _⟩) (v := ?_) rfl (by kernel_rfl) (by kernel_rfl) (by kernel_rfl) (fun _ _ _ h => h) (Or.inl ⟨by rfl, ?_⟩) (by assumption) ?_
            rotate_left
            · intro w hSw; (try dsimp only at hSw); first | (go_simp; done) | (go_simp; with_reducible rfl)
            try simp only [Act.put, List.setIfInBounds_toArray, List.set_cons_zero, List.set_cons_succ]
            refine wpAnyH_take (i := 22) (oi := ⟨_, _, _, _, _, _⟩) (v := ?_) rfl (by kernel_rfl) (by kernel_rfl) (by kernel_rfl) (fun _ _ _ h => h) (Or.inl ⟨by rfl, ?_⟩) (by assumption) ?_
            rotate_left
            · intro w hSw; (try dsimp only at hSw); first | (go_simp; done) | (go_simp; with_reducible rfl)
            try simp only [Act.put, List.setIfInBounds_toArray, List.set_cons_zero, List.set_cons_succ]
            refine wpAnyH_done (by kernel_rfl) ?_ _
            clear hHeld
            go_wp2_with fail
            go_loopw [22, 123] (fun t n wr => ∃ k f : Nat, k ≤ M.length ∧ n = .int .i64 k ∧ t = .int .i64 f ∧ f ≤ 200 * k ∧ Hid (fastLen (M.take k) = f) ∧ Hid (Below w10.heap.size w10 wr)) (fun _ n _ => M.length - (intOf n).toNat)
            case atStart => exact ⟨0, 0, Nat.zero_le _, rfl, rfl, by omega, Lib.hid rfl, BJ13⟩
            case round =>
              obtain ⟨k, f, hk, rfl, rfl, hf, hE, hW⟩ := hrel
              by_cases hlt : k < M.length
              · obtain ⟨g, og, rfl, hgS, _, _, hcs⟩ := part_at (PM10.out wr hW.out) (by omega)
                obtain ⟨p, hh⟩ : ∃ p, M[k]? = some p := ⟨_, List.getElem?_eq_getElem hlt⟩
                obtain ⟨q1a, q1c, q2a, q2c, q3a, q3c, z0, z1, z2, z3, _, _, _⟩ := hcs k p hh
                have hpb := FF.out p (List.mem_of_getElem? hh)
                have HT := Lib.hid (fastLen_take hh)
                rw [hE.out] at HT
                obtain ⟨kd, l1, l2, l3⟩ := p
                simp only at z0 z1 z2 z3 hpb HT
                have hsz := hW.out.size
                have W2 : Hid (Below w10.heap.size w10 (wr.alloc (.cells #[.int .i64 kd, .slice q1a l1.length q1c, .slice q2a l2.length q2c, .slice q3a l3.length q3c] 73))) := Lib.hid (hW.out.alloc hsz _)
                have HBX := Lib.hid (new_five wr #[.int .i64 kd, .slice q1a l1.length q1c, .slice q2a l2.length q2c, .slice q3a l3.length q3c] 73)
                clear hcs hh hE
                go_upto_region 18 with fail
                obtain ⟨b0, b1, b2, b3⟩ := box4 HBX.out rfl
                clear z0 z1 z2 z3 HBX
                generalize wr.alloc (.cells #[.int .i64 kd, .slice q1a l1.length q1c, .slice q2a l2.length q2c, .slice q3a l3.length q3c] 73) = wp at *
                by_cases hkd : kd = 0
                · have hkb : (kd == 0) = true := by rw [beq_iff_eq]; exact hkd
                  have HT2 : Hid (fastLen (M.take (k + 1)) = f + l1.length) := Lib.hid (by rw [HT.out, if_pos hkd])
                  clear hkd HT
                  go_wp2_with fail
                  go_roundw
                  case rel => exact ⟨k + 1, f + l1.length, by omega, by go_num, by go_num, by omega, HT2, W2⟩
                  case measure => simp [intOf]; omega
                · have hkb : (kd == 0) = false := by rw [beq_eq_false_iff_ne]; exact hkd
                  have HT2 : Hid (fastLen (M.take (k + 1)) = f) := Lib.hid (by rw [HT.out, if_neg hkd]; rfl)
                  clear hkd HT
                  go_wp2_with fail
                  go_roundw
                  case rel => exact ⟨k + 1, f, by omega, by go_num, rfl, by omega, HT2, W2⟩
                  case measure => simp [intOf]; omega
              · have HFA : Hid (f ≤ lcs A L) := Lib.hid (by
                  have h := hE.out
                  rw [List.take_of_length_le (by omega), fastLen_steady] at h
                  rw [← h]; exact ST.out)
                have CP := Lib.hid (pairs_any _ _ _ _ A L wr (fun k hk => Nat.lt_of_lt_of_le hk (by have := hW.out.size; omega)) (fun k hk => Nat.lt_of_lt_of_le hk (by have := hW.out.size; omega)) (OA10.out wr hW.out) (OL10.out wr hW.out) (by omega) (by omega) AX.out LX.out (mul_200 h1 hLl))
                clear hE
                go_wp2_with fail
                refine CP.out.mono ?_
                rintro e w20 ⟨v20, rfl, ho20, hb20⟩
                have hlen := pairsN_len A L 0 0
                obtain ⟨PL, hPL⟩ : ∃ P, pairsN A 0 L 0 = P := ⟨_, rfl⟩
                rw [hPL] at ho20 hlen
                obtain ⟨a20, c20, rfl⟩ := ownP_slice ho20
                have hge : f ≤ PL.length := by rw [hlen]; exact HFA.out
                have B20 := Lib.hid (BW10.out _ (hW.out.trans (hb20.mono hW.out.size)))
                clear hlen hPL ho20 hb20 CP
                cases cm
                all_goals
                  go_wp2_with fail
                  go_ret
                  exact ⟨rfl, B20.out⟩
      · go_wp2_with fail
        go_ret
        exact ⟨rfl, B3.out⟩
    · go_wp2_with fail
      go_ret
      exact ⟨rfl, B3.out⟩
  · go_wp2_with fail
    go_ret
    exact ⟨rfl, B3.out⟩
end Go.Proofs.Ytfiogjdjcocbnaa
