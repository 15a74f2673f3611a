/- The law of the atomic rename. -/
import Derived.Test.YtigiaejhjpjcmaaDoorVfQ
namespace Go.Proofs.YtigiaejhjpjcmaaDoor
open Go.RowKit Go.Maps
def TrueP (w : World) (e : Ending) (w' : World) : Prop := e = .returned (.bool true) ∧ Below w.heap.size w w'
set_option maxRecDepth 100000 in
set_option maxHeartbeats 16000000 in
theorem rename_law (va vb : Value) (la lb : List UInt8) (m ca cb : Int) (w : World) (ha : BytesC (fun k => k < w.heap.size) w va la) (hb : BytesC (fun k => k < w.heap.size) w vb lb) (hla : la.length ≤ 1048576) (hlb : lb.length ≤ 1048576)
    (hm : -9223372036854775808 ≤ m ∧ m ≤ 9223372036854775807) (hE : PEnv w) :
    Calls Tryd.prog 3 #[va, vb, .agg #[.int .i64 m, .int .i64 ca, .int .i64 cb]] w (TrueP w) := by
  obtain ⟨aa, ac, rfl⟩ := ha.shape
  obtain ⟨ba, bc, rfl⟩ := hb.shape
  have HBA := Lib.hid (fun (W : World) (hW : Below w.heap.size w W) => (ha.kept (w' := W) (S' := fun k => k < w.heap.size) (fun k hk => ⟨hk, hW.block k hk⟩)))
  have HBB := Lib.hid (fun (W : World) (hW : Below w.heap.size w W) => (hb.kept (w' := W) (S' := fun k => k < w.heap.size) (fun k hk => ⟨hk, hW.block k hk⟩)))
  have HE := Lib.hid hE
  have B0 := Lib.hid ((Below.refl w.heap.size w).alloc (Nat.le_refl _) (.cells #[.int .i64 m, .int .i64 ca, .int .i64 cb] 23))
  have N0 := Lib.hid (new_five w #[.int .i64 m, .int .i64 ca, .int .i64 cb] 23)
  have Z0 : Hid (w.heap.size < (w.alloc (.cells #[.int .i64 m, .int .i64 ca, .int .i64 cb] 23)).heap.size) := Lib.hid (by simp)
  have HM := Lib.hid hm
  clear ha hb hE hm
  obtain ⟨n1, hn1⟩ : ∃ n, la.length = n := ⟨_, rfl⟩
  obtain ⟨n2, hn2⟩ : ∃ n, lb.length = n := ⟨_, rfl⟩
  have HN1 := Lib.hid hn1
  have HN2 := Lib.hid hn2
  rw [hn1] at hla HBA ⊢
  rw [hn2] at hlb HBB ⊢
  clear hn1 hn2
  go_enter Tryd.func3, Tryd.ntmps3
  go_upto_region 1 with fail
  generalize w.alloc (.cells #[.int .i64 m, .int .i64 ca, .int .i64 cb] 23) = w1 at *
  go_wp2_with fail
  refine (awake_any w1 (HE.out.on B0.out)).mono ?_
  rintro e w2 ⟨rfl, b2⟩
  have B2 := Lib.hid (B0.out.trans (b2.mono B0.out.size))
  have N2 := Lib.hid ((b2.block _ Z0.out).trans N0.out)
  have Z2 : Hid (w.heap.size < w2.heap.size) := Lib.hid (Nat.lt_of_lt_of_le Z0.out b2.size)
  clear b2
  by_cases hbig : n1 + n2 > 1000
  · have g1 : decide (n1 + n2 > 1000) = true := decide_eq_true hbig
    have g2 : decide ((n1 : Int) + (n2 : Int) > 1000) = true := decide_eq_true (by omega)
    go_wp2_with fail
    go_ret
    exact ⟨rfl, B2.out⟩
  have g1 : decide (n1 + n2 > 1000) = false := decide_eq_false hbig
  have g2 : decide ((n1 : Int) + (n2 : Int) > 1000) = false := decide_eq_false (by omega)
  have HSM : Hid (la.length + lb.length ≤ 1000) := Lib.hid (by rw [HN1.out, HN2.out]; omega)
  have HSA : Hid (la.length ≤ 1000) := Lib.hid (by have := HSM.out; omega)
  clear hbig
  go_wp2_with fail
  have HN := Lib.hid (g_new B2.out 1000 (by omega))
  refine HN.out.mono ?_
  rintro e w3 ⟨bf, rfl, g3, b3⟩
  have N3 := Lib.hid ((b3.block _ Z2.out).trans N2.out)
  have HFB : Hid (w.heap.size ≤ w.heap.size ∧ w.heap.size < w2.heap.size) := Lib.hid ⟨Nat.le_refl _, Z2.out⟩
  have G3 := Lib.hid g3
  clear g3 HN b3 g1 g2
  go_wp2_with fail
  have HC := Lib.hid (g_create G3.out (by show (0 : Nat) ≤ _; omega) HE.out [102] (by decide))
  rw [r1] at HC
  refine HC.out.mono ?_
  rintro e w4 ⟨rfl, g4, _, f4⟩
  have G4 : Hid (FsG w (fun k => w.heap.size ≤ k ∧ k < w2.heap.size) w4 bf (R1)) := Lib.hid g4
  have N4 := Lib.hid ((f4 _ HFB.out).trans N3.out)
  clear g4 f4 HC G3 N3
  go_wp2_with fail
  have HC := Lib.hid (g_append G4.out (by show (1 : Nat) ≤ _; omega) [102] (by decide) _ _ la (HBA.out _ G4.out.below) (fun k hk => Or.inl hk) (by rw [HN1.out]; omega))
  rw [r2 la HSA.out] at HC
  refine HC.out.mono ?_
  rintro e w5 ⟨rfl, g5, _, f5⟩
  have G5 : Hid (FsG w (fun k => w.heap.size ≤ k ∧ k < w2.heap.size) w5 bf (R2 la)) := Lib.hid g5
  have N5 := Lib.hid ((f5 _ HFB.out).trans N4.out)
  clear g5 f5 HC G4 N4
  go_wp2_with fail
  have HC := Lib.hid (g_sync G5.out (by show (2 : Nat) ≤ _; omega) [102] (by decide))
  rw [r3 la] at HC
  refine HC.out.mono ?_
  rintro e w6 ⟨rfl, g6, _, f6⟩
  have G6 : Hid (FsG w (fun k => w.heap.size ≤ k ∧ k < w2.heap.size) w6 bf (R3 la)) := Lib.hid g6
  have N6 := Lib.hid ((f6 _ HFB.out).trans N5.out)
  clear g6 f6 HC G5 N5
  go_wp2_with fail
  have HC := Lib.hid (g_flush G6.out (by show (3 : Nat) ≤ _; omega))
  rw [r4 la] at HC
  refine HC.out.mono ?_
  rintro e w7 ⟨rfl, g7, _, f7⟩
  have G7 : Hid (FsG w (fun k => w.heap.size ≤ k ∧ k < w2.heap.size) w7 bf (RA la (-1))) := Lib.hid g7
  have N7 := Lib.hid ((f7 _ HFB.out).trans N6.out)
  clear g7 f7 HC G6 N6
  have z0 : w7.cell? ⟨w.heap.size, 0, none⟩ = some (.int .i64 m) := (cell_of_row _ _ _ _ _ _ N7.out).trans rfl
  go_wp2_with fail
  have HC := Lib.hid (g_stop G7.out m HM.out)
  refine HC.out.mono ?_
  rintro e w8 ⟨rfl, g8, _, f8⟩
  have G8 : Hid (FsG w (fun k => w.heap.size ≤ k ∧ k < w2.heap.size) w8 bf (RA la m)) := Lib.hid g8
  have N8 := Lib.hid ((f8 _ HFB.out).trans N7.out)
  clear g8 f8 HC G7 N7
  clear z0
  obtain ⟨m0, hm0⟩ : ∃ x, m = x := ⟨_, rfl⟩
  have HM0 : Hid (m = m0) := Lib.hid hm0
  rw [hm0] at G8
  clear hm0
  by_cases hm0 : m0 = 0
  · have HMZ := Lib.hid hm0
    clear hm0
    go_wp2_with fail
    have HC := Lib.hid (g_create G8.out (by show (4 : Nat) ≤ _; omega) HE.out [103] (by decide))
    rw [ra la m0, if_pos HMZ.out] at HC
    refine HC.out.mono ?_
    rintro e w9 ⟨rfl, g9, _, f9⟩
    have G9 : Hid (FsG w (fun k => w.heap.size ≤ k ∧ k < w2.heap.size) w9 bf (RA la m0)) := Lib.hid g9
    have N9 := Lib.hid ((f9 _ HFB.out).trans N8.out)
    clear g9 f9 HC G8 N8
    have z1 : w9.cell? ⟨w.heap.size, 1, none⟩ = some (.int .i64 ca) := (cell_of_row _ _ _ _ _ _ N9.out).trans rfl
    have z2 : w9.cell? ⟨w.heap.size, 2, none⟩ = some (.int .i64 cb) := (cell_of_row _ _ _ _ _ _ N9.out).trans rfl
    go_wp2_with fail
    have HC := Lib.hid (g_crash G9.out (by show (4 : Nat) ≤ _; omega) ca cb)
    refine HC.out.mono ?_
    rintro e w10 ⟨rfl, g10, _, f10⟩
    have G10 : Hid (FsG w (fun k => w.heap.size ≤ k ∧ k < w2.heap.size) w10 bf (crashS (RA la m0) ca cb)) := Lib.hid g10
    have N10 := Lib.hid ((f10 _ HFB.out).trans N9.out)
    clear g10 f10 HC G9 N9
    clear z1 z2
    go_wp2_with fail
    have HR : Hid (Calls Tryd.prog 14 #[.pointer (some ⟨bf, 0, none⟩), .string ⟨([102] : List UInt8).toArray⟩] w10 (ReadP w10 la 0)) := Lib.hid (by have h := g_read G10.out [102] (by decide); rw [ea la m0 ca cb] at h; exact h)
    refine HR.out.mono ?_
    rintro e w20 ⟨v20, rfl, o20, b20⟩
    obtain ⟨a20, c20, rfl⟩ := own_slice o20
    have hcv := bytes_str (own_c o20)
    have hca := bytes_str (HBA.out w20 (G10.out.below.trans (b20.mono G10.out.below.size)))
    have hcb := bytes_str (HBB.out w20 (G10.out.below.trans (b20.mono G10.out.below.size)))
    have z0 : w20.cell? ⟨w.heap.size, 0, none⟩ = some (.int .i64 m) := (cell_of_row _ _ _ _ _ _ ((b20.block _ (by have := G10.out.below.size; have h1 := N10.out; exact (Array.getElem?_eq_some_iff.1 h1).1)).trans N10.out)).trans rfl
    have BF := Lib.hid (G10.out.below.trans (b20.mono G10.out.below.size))
    obtain ⟨nn, hnn⟩ : ∃ n, (la : List UInt8).length = n := ⟨_, rfl⟩
    rw [hnn] at hcv ⊢
    clear hnn o20 b20 HR
    have hmv : m = 0 := by have h0 := HM0.out; have hz := HMZ.out; omega
    have y1 : decide (m < 0) = false := decide_eq_false (by omega)
    have y2 : decide (m ≥ 5) = false := decide_eq_false (by omega)
    clear hmv
    have hq : (la == la) = true := beq_self_eq_true la
    go_wp2_with fail
    go_ret
    exact ⟨rfl, BF.out⟩
  have HMN := Lib.hid hm0
  clear hm0
  go_wp2_with fail
  have HC := Lib.hid (g_create G8.out (by show (4 : Nat) ≤ _; omega) HE.out [103] (by decide))
  rw [ra la m0, if_neg HMN.out] at HC
  refine HC.out.mono ?_
  rintro e w9 ⟨rfl, g9, _, f9⟩
  have G9 : Hid (FsG w (fun k => w.heap.size ≤ k ∧ k < w2.heap.size) w9 bf (RB la (dn m0))) := Lib.hid g9
  have N9 := Lib.hid ((f9 _ HFB.out).trans N8.out)
  clear g9 f9 HC G8 N8
  have HD1 : Hid (dn m0 = m0 - 1 ∧ 0 < m0 ∨ dn m0 = m0 ∧ m0 < 0) := Lib.hid (by have := HMN.out; unfold dn; split <;> omega)
  obtain ⟨m1, hmm⟩ : ∃ x, dn m0 = x := ⟨_, rfl⟩
  rw [hmm] at G9 HD1
  clear hmm HMN
  by_cases hm1 : m1 = 0
  · have HMZ := Lib.hid hm1
    clear hm1
    go_wp2_with fail
    have HC := Lib.hid (g_append G9.out (by show (5 : Nat) ≤ _; omega) [103] (by decide) _ _ lb (HBB.out _ G9.out.below) (fun k hk => Or.inl hk) (by rw [HN2.out]; omega))
    rw [rb la lb m1 HSM.out, if_pos HMZ.out] at HC
    refine HC.out.mono ?_
    rintro e w10 ⟨rfl, g10, _, f10⟩
    have G10 : Hid (FsG w (fun k => w.heap.size ≤ k ∧ k < w2.heap.size) w10 bf (RB la m1)) := Lib.hid g10
    have N10 := Lib.hid ((f10 _ HFB.out).trans N9.out)
    clear g10 f10 HC G9 N9
    have z1 : w10.cell? ⟨w.heap.size, 1, none⟩ = some (.int .i64 ca) := (cell_of_row _ _ _ _ _ _ N10.out).trans rfl
    have z2 : w10.cell? ⟨w.heap.size, 2, none⟩ = some (.int .i64 cb) := (cell_of_row _ _ _ _ _ _ N10.out).trans rfl
    go_wp2_with fail
    have HC := Lib.hid (g_crash G10.out (by show (5 : Nat) ≤ _; omega) ca cb)
    refine HC.out.mono ?_
    rintro e w11 ⟨rfl, g11, _, f11⟩
    have G11 : Hid (FsG w (fun k => w.heap.size ≤ k ∧ k < w2.heap.size) w11 bf (crashS (RB la m1) ca cb)) := Lib.hid g11
    have N11 := Lib.hid ((f11 _ HFB.out).trans N10.out)
    clear g11 f11 HC G10 N10
    clear z1 z2
    go_wp2_with fail
    have HR : Hid (Calls Tryd.prog 14 #[.pointer (some ⟨bf, 0, none⟩), .string ⟨([102] : List UInt8).toArray⟩] w11 (ReadP w11 la 0)) := Lib.hid (by have h := g_read G11.out [102] (by decide); rw [show readS (crashS (RB la m1) ca cb) [102] = (la, 0) from eb rfl (by simp) _ _ _ ca cb] at h; exact h)
    refine HR.out.mono ?_
    rintro e w20 ⟨v20, rfl, o20, b20⟩
    obtain ⟨a20, c20, rfl⟩ := own_slice o20
    have hcv := bytes_str (own_c o20)
    have hca := bytes_str (HBA.out w20 (G11.out.below.trans (b20.mono G11.out.below.size)))
    have hcb := bytes_str (HBB.out w20 (G11.out.below.trans (b20.mono G11.out.below.size)))
    have z0 : w20.cell? ⟨w.heap.size, 0, none⟩ = some (.int .i64 m) := (cell_of_row _ _ _ _ _ _ ((b20.block _ (by have := G11.out.below.size; have h1 := N11.out; exact (Array.getElem?_eq_some_iff.1 h1).1)).trans N11.out)).trans rfl
    have BF := Lib.hid (G11.out.below.trans (b20.mono G11.out.below.size))
    obtain ⟨nn, hnn⟩ : ∃ n, (la : List UInt8).length = n := ⟨_, rfl⟩
    rw [hnn] at hcv ⊢
    clear hnn o20 b20 HR
    have hmv : m = 1 := by have h0 := HM0.out; have hz := HMZ.out; have h1 := HD1.out; omega
    have y1 : decide (m < 0) = false := decide_eq_false (by omega)
    have y2 : decide (m ≥ 5) = false := decide_eq_false (by omega)
    clear hmv
    have hq : (la == la) = true := beq_self_eq_true la
    go_wp2_with fail
    go_ret
    exact ⟨rfl, BF.out⟩
  have HMN := Lib.hid hm1
  clear hm1
  go_wp2_with fail
  have HC := Lib.hid (g_append G9.out (by show (5 : Nat) ≤ _; omega) [103] (by decide) _ _ lb (HBB.out _ G9.out.below) (fun k hk => Or.inl hk) (by rw [HN2.out]; omega))
  rw [rb la lb m1 HSM.out, if_neg HMN.out] at HC
  refine HC.out.mono ?_
  rintro e w10 ⟨rfl, g10, _, f10⟩
  have G10 : Hid (FsG w (fun k => w.heap.size ≤ k ∧ k < w2.heap.size) w10 bf (RC la lb (dn m1))) := Lib.hid g10
  have N10 := Lib.hid ((f10 _ HFB.out).trans N9.out)
  clear g10 f10 HC G9 N9
  have HD2 : Hid (dn m1 = m1 - 1 ∧ 0 < m1 ∨ dn m1 = m1 ∧ m1 < 0) := Lib.hid (by have := HMN.out; unfold dn; split <;> omega)
  obtain ⟨m2, hmm⟩ : ∃ x, dn m1 = x := ⟨_, rfl⟩
  rw [hmm] at G10 HD2
  clear hmm HMN
  by_cases hm2 : m2 = 0
  · have HMZ := Lib.hid hm2
    clear hm2
    go_wp2_with fail
    have HC := Lib.hid (g_sync G10.out (by show (6 : Nat) ≤ _; omega) [103] (by decide))
    rw [rc la lb m2, if_pos HMZ.out] at HC
    refine HC.out.mono ?_
    rintro e w11 ⟨rfl, g11, _, f11⟩
    have G11 : Hid (FsG w (fun k => w.heap.size ≤ k ∧ k < w2.heap.size) w11 bf (RC la lb m2)) := Lib.hid g11
    have N11 := Lib.hid ((f11 _ HFB.out).trans N10.out)
    clear g11 f11 HC G10 N10
    have z1 : w11.cell? ⟨w.heap.size, 1, none⟩ = some (.int .i64 ca) := (cell_of_row _ _ _ _ _ _ N11.out).trans rfl
    have z2 : w11.cell? ⟨w.heap.size, 2, none⟩ = some (.int .i64 cb) := (cell_of_row _ _ _ _ _ _ N11.out).trans rfl
    go_wp2_with fail
    have HC := Lib.hid (g_crash G11.out (by show (6 : Nat) ≤ _; omega) ca cb)
    refine HC.out.mono ?_
    rintro e w12 ⟨rfl, g12, _, f12⟩
    have G12 : Hid (FsG w (fun k => w.heap.size ≤ k ∧ k < w2.heap.size) w12 bf (crashS (RC la lb m2) ca cb)) := Lib.hid g12
    have N12 := Lib.hid ((f12 _ HFB.out).trans N11.out)
    clear g12 f12 HC G11 N11
    clear z1 z2
    go_wp2_with fail
    have HR : Hid (Calls Tryd.prog 14 #[.pointer (some ⟨bf, 0, none⟩), .string ⟨([102] : List UInt8).toArray⟩] w12 (ReadP w12 la 0)) := Lib.hid (by have h := g_read G12.out [102] (by decide); rw [show readS (crashS (RC la lb m2) ca cb) [102] = (la, 0) from eb rfl (by simp) _ _ _ ca cb] at h; exact h)
    refine HR.out.mono ?_
    rintro e w20 ⟨v20, rfl, o20, b20⟩
    obtain ⟨a20, c20, rfl⟩ := own_slice o20
    have hcv := bytes_str (own_c o20)
    have hca := bytes_str (HBA.out w20 (G12.out.below.trans (b20.mono G12.out.below.size)))
    have hcb := bytes_str (HBB.out w20 (G12.out.below.trans (b20.mono G12.out.below.size)))
    have z0 : w20.cell? ⟨w.heap.size, 0, none⟩ = some (.int .i64 m) := (cell_of_row _ _ _ _ _ _ ((b20.block _ (by have := G12.out.below.size; have h1 := N12.out; exact (Array.getElem?_eq_some_iff.1 h1).1)).trans N12.out)).trans rfl
    have BF := Lib.hid (G12.out.below.trans (b20.mono G12.out.below.size))
    obtain ⟨nn, hnn⟩ : ∃ n, (la : List UInt8).length = n := ⟨_, rfl⟩
    rw [hnn] at hcv ⊢
    clear hnn o20 b20 HR
    have hmv : m = 2 := by have h0 := HM0.out; have hz := HMZ.out; have h1 := HD1.out; have h2 := HD2.out; omega
    have y1 : decide (m < 0) = false := decide_eq_false (by omega)
    have y2 : decide (m ≥ 5) = false := decide_eq_false (by omega)
    clear hmv
    have hq : (la == la) = true := beq_self_eq_true la
    go_wp2_with fail
    go_ret
    exact ⟨rfl, BF.out⟩
  have HMN := Lib.hid hm2
  clear hm2
  go_wp2_with fail
  have HC := Lib.hid (g_sync G10.out (by show (6 : Nat) ≤ _; omega) [103] (by decide))
  rw [rc la lb m2, if_neg HMN.out] at HC
  refine HC.out.mono ?_
  rintro e w11 ⟨rfl, g11, _, f11⟩
  have G11 : Hid (FsG w (fun k => w.heap.size ≤ k ∧ k < w2.heap.size) w11 bf (RD la lb (dn m2))) := Lib.hid g11
  have N11 := Lib.hid ((f11 _ HFB.out).trans N10.out)
  clear g11 f11 HC G10 N10
  have HD3 : Hid (dn m2 = m2 - 1 ∧ 0 < m2 ∨ dn m2 = m2 ∧ m2 < 0) := Lib.hid (by have := HMN.out; unfold dn; split <;> omega)
  obtain ⟨m3, hmm⟩ : ∃ x, dn m2 = x := ⟨_, rfl⟩
  rw [hmm] at G11 HD3
  clear hmm HMN
  by_cases hm3 : m3 = 0
  · have HMZ := Lib.hid hm3
    clear hm3
    go_wp2_with fail
    have HC := Lib.hid (g_rename G11.out (by show (7 : Nat) ≤ _; omega) HE.out [103] [102] (by decide) (by decide))
    rw [rd la lb m3, if_pos HMZ.out] at HC
    refine HC.out.mono ?_
    rintro e w12 ⟨rfl, g12, _, f12⟩
    have G12 : Hid (FsG w (fun k => w.heap.size ≤ k ∧ k < w2.heap.size) w12 bf (RD la lb m3)) := Lib.hid g12
    have N12 := Lib.hid ((f12 _ HFB.out).trans N11.out)
    clear g12 f12 HC G11 N11
    have z1 : w12.cell? ⟨w.heap.size, 1, none⟩ = some (.int .i64 ca) := (cell_of_row _ _ _ _ _ _ N12.out).trans rfl
    have z2 : w12.cell? ⟨w.heap.size, 2, none⟩ = some (.int .i64 cb) := (cell_of_row _ _ _ _ _ _ N12.out).trans rfl
    go_wp2_with fail
    have HC := Lib.hid (g_crash G12.out (by show (7 : Nat) ≤ _; omega) ca cb)
    refine HC.out.mono ?_
    rintro e w13 ⟨rfl, g13, _, f13⟩
    have G13 : Hid (FsG w (fun k => w.heap.size ≤ k ∧ k < w2.heap.size) w13 bf (crashS (RD la lb m3) ca cb)) := Lib.hid g13
    have N13 := Lib.hid ((f13 _ HFB.out).trans N12.out)
    clear g13 f13 HC G12 N12
    clear z1 z2
    go_wp2_with fail
    have HR : Hid (Calls Tryd.prog 14 #[.pointer (some ⟨bf, 0, none⟩), .string ⟨([102] : List UInt8).toArray⟩] w13 (ReadP w13 la 0)) := Lib.hid (by have h := g_read G13.out [102] (by decide); rw [show readS (crashS (RD la lb m3) ca cb) [102] = (la, 0) from eb rfl (by simp) _ _ _ ca cb] at h; exact h)
    refine HR.out.mono ?_
    rintro e w20 ⟨v20, rfl, o20, b20⟩
    obtain ⟨a20, c20, rfl⟩ := own_slice o20
    have hcv := bytes_str (own_c o20)
    have hca := bytes_str (HBA.out w20 (G13.out.below.trans (b20.mono G13.out.below.size)))
    have hcb := bytes_str (HBB.out w20 (G13.out.below.trans (b20.mono G13.out.below.size)))
    have z0 : w20.cell? ⟨w.heap.size, 0, none⟩ = some (.int .i64 m) := (cell_of_row _ _ _ _ _ _ ((b20.block _ (by have := G13.out.below.size; have h1 := N13.out; exact (Array.getElem?_eq_some_iff.1 h1).1)).trans N13.out)).trans rfl
    have BF := Lib.hid (G13.out.below.trans (b20.mono G13.out.below.size))
    obtain ⟨nn, hnn⟩ : ∃ n, (la : List UInt8).length = n := ⟨_, rfl⟩
    rw [hnn] at hcv ⊢
    clear hnn o20 b20 HR
    have hmv : m = 3 := by have h0 := HM0.out; have hz := HMZ.out; have h1 := HD1.out; have h2 := HD2.out; have h3 := HD3.out; omega
    have y1 : decide (m < 0) = false := decide_eq_false (by omega)
    have y2 : decide (m ≥ 5) = false := decide_eq_false (by omega)
    clear hmv
    have hq : (la == la) = true := beq_self_eq_true la
    go_wp2_with fail
    go_ret
    exact ⟨rfl, BF.out⟩
  have HMN := Lib.hid hm3
  clear hm3
  go_wp2_with fail
  have HC := Lib.hid (g_rename G11.out (by show (7 : Nat) ≤ _; omega) HE.out [103] [102] (by decide) (by decide))
  rw [rd la lb m3, if_neg HMN.out] at HC
  refine HC.out.mono ?_
  rintro e w12 ⟨rfl, g12, _, f12⟩
  have G12 : Hid (FsG w (fun k => w.heap.size ≤ k ∧ k < w2.heap.size) w12 bf (RE la lb (dn m3))) := Lib.hid g12
  have N12 := Lib.hid ((f12 _ HFB.out).trans N11.out)
  clear g12 f12 HC G11 N11
  have HD4 : Hid (dn m3 = m3 - 1 ∧ 0 < m3 ∨ dn m3 = m3 ∧ m3 < 0) := Lib.hid (by have := HMN.out; unfold dn; split <;> omega)
  obtain ⟨m4, hmm⟩ : ∃ x, dn m3 = x := ⟨_, rfl⟩
  rw [hmm] at G12 HD4
  clear hmm HMN
  by_cases hm4 : m4 = 0
  · have HMZ := Lib.hid hm4
    clear hm4
    go_wp2_with fail
    have HC := Lib.hid (g_flush G12.out (by show (8 : Nat) ≤ _; omega))
    rw [re la lb m4, if_pos HMZ.out] at HC
    refine HC.out.mono ?_
    rintro e w13 ⟨rfl, g13, _, f13⟩
    have G13 : Hid (FsG w (fun k => w.heap.size ≤ k ∧ k < w2.heap.size) w13 bf (RE la lb m4)) := Lib.hid g13
    have N13 := Lib.hid ((f13 _ HFB.out).trans N12.out)
    clear g13 f13 HC G12 N12
    have z1 : w13.cell? ⟨w.heap.size, 1, none⟩ = some (.int .i64 ca) := (cell_of_row _ _ _ _ _ _ N13.out).trans rfl
    have z2 : w13.cell? ⟨w.heap.size, 2, none⟩ = some (.int .i64 cb) := (cell_of_row _ _ _ _ _ _ N13.out).trans rfl
    go_wp2_with fail
    have HC := Lib.hid (g_crash G13.out (by show (8 : Nat) ≤ _; omega) ca cb)
    refine HC.out.mono ?_
    rintro e w14 ⟨rfl, g14, _, f14⟩
    have G14 : Hid (FsG w (fun k => w.heap.size ≤ k ∧ k < w2.heap.size) w14 bf (crashS (RE la lb m4) ca cb)) := Lib.hid g14
    have N14 := Lib.hid ((f14 _ HFB.out).trans N13.out)
    clear g14 f14 HC G13 N13
    clear z1 z2
    go_wp2_with fail
    rcases ee la lb m4 ca cb with hends | hends
    · have HR : Hid (Calls Tryd.prog 14 #[.pointer (some ⟨bf, 0, none⟩), .string ⟨([102] : List UInt8).toArray⟩] w14 (ReadP w14 la 0)) := Lib.hid (by have h := g_read G14.out [102] (by decide); rw [hends] at h; exact h)
      clear hends
      refine HR.out.mono ?_
      rintro e w20 ⟨v20, rfl, o20, b20⟩
      obtain ⟨a20, c20, rfl⟩ := own_slice o20
      have hcv := bytes_str (own_c o20)
      have hca := bytes_str (HBA.out w20 (G14.out.below.trans (b20.mono G14.out.below.size)))
      have hcb := bytes_str (HBB.out w20 (G14.out.below.trans (b20.mono G14.out.below.size)))
      have z0 : w20.cell? ⟨w.heap.size, 0, none⟩ = some (.int .i64 m) := (cell_of_row _ _ _ _ _ _ ((b20.block _ (by have := G14.out.below.size; have h1 := N14.out; exact (Array.getElem?_eq_some_iff.1 h1).1)).trans N14.out)).trans rfl
      have BF := Lib.hid (G14.out.below.trans (b20.mono G14.out.below.size))
      obtain ⟨nn, hnn⟩ : ∃ n, (la : List UInt8).length = n := ⟨_, rfl⟩
      rw [hnn] at hcv ⊢
      clear hnn o20 b20 HR
      have hmv : m = 4 := by have h0 := HM0.out; have hz := HMZ.out; have h1 := HD1.out; have h2 := HD2.out; have h3 := HD3.out; have h4 := HD4.out; omega
      have y1 : decide (m < 0) = false := decide_eq_false (by omega)
      have y2 : decide (m ≥ 5) = false := decide_eq_false (by omega)
      clear hmv
      have hq : (la == la) = true := beq_self_eq_true la
      go_wp2_with fail
      go_ret
      exact ⟨rfl, BF.out⟩
    · have HR : Hid (Calls Tryd.prog 14 #[.pointer (some ⟨bf, 0, none⟩), .string ⟨([102] : List UInt8).toArray⟩] w14 (ReadP w14 lb 0)) := Lib.hid (by have h := g_read G14.out [102] (by decide); rw [hends] at h; exact h)
      clear hends
      refine HR.out.mono ?_
      rintro e w20 ⟨v20, rfl, o20, b20⟩
      obtain ⟨a20, c20, rfl⟩ := own_slice o20
      have hcv := bytes_str (own_c o20)
      have hca := bytes_str (HBA.out w20 (G14.out.below.trans (b20.mono G14.out.below.size)))
      have hcb := bytes_str (HBB.out w20 (G14.out.below.trans (b20.mono G14.out.below.size)))
      have z0 : w20.cell? ⟨w.heap.size, 0, none⟩ = some (.int .i64 m) := (cell_of_row _ _ _ _ _ _ ((b20.block _ (by have := G14.out.below.size; have h1 := N14.out; exact (Array.getElem?_eq_some_iff.1 h1).1)).trans N14.out)).trans rfl
      have BF := Lib.hid (G14.out.below.trans (b20.mono G14.out.below.size))
      obtain ⟨nn, hnn⟩ : ∃ n, (lb : List UInt8).length = n := ⟨_, rfl⟩
      rw [hnn] at hcv ⊢
      clear hnn o20 b20 HR
      have hmv : m = 4 := by have h0 := HM0.out; have hz := HMZ.out; have h1 := HD1.out; have h2 := HD2.out; have h3 := HD3.out; have h4 := HD4.out; omega
      have y1 : decide (m < 0) = false := decide_eq_false (by omega)
      have y2 : decide (m ≥ 5) = false := decide_eq_false (by omega)
      clear hmv
      have hq : (lb == lb) = true := beq_self_eq_true lb
      cases hq2 : (lb == la)
      all_goals
        go_wp2_with fail
        go_ret
        exact ⟨rfl, BF.out⟩
  have HMN := Lib.hid hm4
  clear hm4
  go_wp2_with fail
  have HC := Lib.hid (g_flush G12.out (by show (8 : Nat) ≤ _; omega))
  rw [re la lb m4, if_neg HMN.out] at HC
  refine HC.out.mono ?_
  rintro e w13 ⟨rfl, g13, _, f13⟩
  have G13 : Hid (FsG w (fun k => w.heap.size ≤ k ∧ k < w2.heap.size) w13 bf (RG la lb (dn m4))) := Lib.hid g13
  have N13 := Lib.hid ((f13 _ HFB.out).trans N12.out)
  clear g13 f13 HC G12 N12
  have HD5 : Hid (dn m4 = m4 - 1 ∧ 0 < m4 ∨ dn m4 = m4 ∧ m4 < 0) := Lib.hid (by have := HMN.out; unfold dn; split <;> omega)
  obtain ⟨m5, hmm⟩ : ∃ x, dn m4 = x := ⟨_, rfl⟩
  rw [hmm] at G13 HD5
  clear hmm HMN
  have z1 : w13.cell? ⟨w.heap.size, 1, none⟩ = some (.int .i64 ca) := (cell_of_row _ _ _ _ _ _ N13.out).trans rfl
  have z2 : w13.cell? ⟨w.heap.size, 2, none⟩ = some (.int .i64 cb) := (cell_of_row _ _ _ _ _ _ N13.out).trans rfl
  go_wp2_with fail
  have HC := Lib.hid (g_crash G13.out (by show (9 : Nat) ≤ _; omega) ca cb)
  refine HC.out.mono ?_
  rintro e w14 ⟨rfl, g14, _, f14⟩
  have G14 : Hid (FsG w (fun k => w.heap.size ≤ k ∧ k < w2.heap.size) w14 bf (crashS (RG la lb m5) ca cb)) := Lib.hid g14
  have N14 := Lib.hid ((f14 _ HFB.out).trans N13.out)
  clear g14 f14 HC G13 N13
  clear z1 z2
  go_wp2_with fail
  have HR : Hid (Calls Tryd.prog 14 #[.pointer (some ⟨bf, 0, none⟩), .string ⟨([102] : List UInt8).toArray⟩] w14 (ReadP w14 lb 0)) := Lib.hid (by have h := g_read G14.out [102] (by decide); rw [eg la lb m5 ca cb] at h; exact h)
  refine HR.out.mono ?_
  rintro e w20 ⟨v20, rfl, o20, b20⟩
  obtain ⟨a20, c20, rfl⟩ := own_slice o20
  have hcv := bytes_str (own_c o20)
  have hca := bytes_str (HBA.out w20 (G14.out.below.trans (b20.mono G14.out.below.size)))
  have hcb := bytes_str (HBB.out w20 (G14.out.below.trans (b20.mono G14.out.below.size)))
  have z0 : w20.cell? ⟨w.heap.size, 0, none⟩ = some (.int .i64 m) := (cell_of_row _ _ _ _ _ _ ((b20.block _ (by have := G14.out.below.size; have h1 := N14.out; exact (Array.getElem?_eq_some_iff.1 h1).1)).trans N14.out)).trans rfl
  have BF := Lib.hid (G14.out.below.trans (b20.mono G14.out.below.size))
  obtain ⟨nn, hnn⟩ : ∃ n, (lb : List UInt8).length = n := ⟨_, rfl⟩
  rw [hnn] at hcv ⊢
  clear hnn o20 b20 HR
  have hmv : m < 0 ∨ 5 ≤ m := by have h0 := HM0.out; have h1 := HD1.out; have h2 := HD2.out; have h3 := HD3.out; have h4 := HD4.out; have h5 := HD5.out; omega
  by_cases hneg : m < 0
  · have y1 : decide (m < 0) = true := decide_eq_true hneg
    clear hneg hmv
    have hq : (lb == lb) = true := beq_self_eq_true lb
    cases hq2 : (lb == la)
    all_goals
      go_wp2_with fail
      go_ret
      exact ⟨rfl, BF.out⟩
  · have y1 : decide (m < 0) = false := decide_eq_false hneg
    have y2 : decide (m ≥ 5) = true := decide_eq_true (by omega)
    clear hneg hmv
    have hq : (lb == lb) = true := beq_self_eq_true lb
    cases hq2 : (lb == la)
    all_goals
      go_wp2_with fail
      go_ret
      exact ⟨rfl, BF.out⟩
end Go.Proofs.YtigiaejhjpjcmaaDoor
