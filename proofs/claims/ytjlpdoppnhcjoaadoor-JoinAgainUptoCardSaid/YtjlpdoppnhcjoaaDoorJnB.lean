/- What the snapshots have at a path, in memory; its time. -/
import Derived.Test.YtjlpdoppnhcjoaaDoorJnA
namespace Go.Proofs.YtjlpdoppnhcjoaaDoor
open Go.RowKit Go.Lib
/-- What becomes of a path. -/
structure OutN where
  path : List UInt8
  kind : Int
  id : Nat → UInt8
  stamp : Nat
  tv : Value
  has : Nat → Bool
  ids : Nat → Nat → UInt8
def outF (o : OutN) (k : Nat) : Value := if k = 0 then .string ⟨o.path.toArray⟩ else if k = 1 then .int .i64 o.kind else if k < 34 then .int .u8 ((o.id (k - 2)).toNat : Int) else if k = 34 then .float .f64 o.stamp else if k = 35 then o.tv else if k < 39 then .bool (o.has (k - 36)) else .int .u8 ((o.ids ((k - 39) / 32) ((k - 39) % 32)).toNat : Int)
def filF (o : OutN) (st : Nat → Nat) (k : Nat) : Value := if k < 135 then outF o k else .float .f64 (st (k - 135))
def n135 : Nat := 135
def n138 : Nat := 138
def n96 : Nat := 96
def n34 : Nat := 34
def n32 : Nat := 32
abbrev FAt (w : World) (b : Nat) (o : OutN) (st : Nat → Nat) : Prop := RF w b 74 n138 (filF o st)
theorem FAt.path {w : World} {b : Nat} {o : OutN} {st : Nat → Nat} (h : FAt w b o st) : w.cell? ⟨b, 0, none⟩ = some (.string ⟨o.path.toArray⟩) := h.cell (by unfold n138; omega)
theorem FAt.has {w : World} {b : Nat} {o : OutN} {st : Nat → Nat} (h : FAt w b o st) {i : Nat} (hi : i < 3) : w.cell? ⟨b, 36 + i, none⟩ = some (.bool (o.has i)) := by
  rw [h.cell (by unfold n138; omega)]
  unfold filF outF
  rw [if_pos (by omega), if_neg (by omega), if_neg (by omega), if_neg (by omega), if_neg (by omega), if_neg (by omega), if_pos (by omega), show 36 + i - 36 = i by omega]
theorem FAt.stamps {w : World} {b : Nat} {o : OutN} {st : Nat → Nat} (h : FAt w b o st) {i : Nat} (hi : i < 3) : w.cell? ⟨b, 135 + i, none⟩ = some (.float .f64 (st i)) := by
  rw [h.cell (by unfold n138; omega)]
  unfold filF
  rw [if_neg (by omega), show 135 + i - 135 = i by omega]
theorem files_size (w : World) : (sizeOf 74).run Tryd.prog w = .ok n138 w := by rw [Tryd.sizeOf74]; rfl
theorem outcome_size (w : World) : (sizeOf 42).run Tryd.prog w = .ok n135 w := by rw [Tryd.sizeOf42]; rfl
theorem id_size (w : World) : (sizeOf 36).run Tryd.prog w = .ok n32 w := by rw [Tryd.sizeOf36]; rfl
attribute [local simp high] files_size outcome_size id_size
theorem cmpN_zero (a b : Nat) : cmpN a b = 0 ↔ a = b := by
  unfold cmpN
  split
  · exact ⟨fun h => (by cases h), fun h => by omega⟩
  · split
    · exact ⟨fun h => (by cases h), fun h => by omega⟩
    · exact ⟨fun _ => by omega, fun _ => rfl⟩
/-- The time of a path. -/
def timeN (has : Nat → Bool) (st : Nat → Nat) : Nat := if has 2 = false then canonB (st 1) else if has 1 = false then canonB (st 2) else if has 0 = true ∧ keyN (st 0) = keyN (st 1) then canonB (st 2) else if has 0 = true ∧ keyN (st 0) = keyN (st 2) then canonB (st 1) else canonB (latL [st 1, st 2])
set_option maxRecDepth 100000 in
set_option maxHeartbeats 4000000 in
theorem time_any (fb : Nat) (o : OutN) (st : Nat → Nat) (w : World) (h : FAt w fb o st) (hst : ∀ i, i < 3 → st i < 18446744073709551616) :
    Calls Tryd.prog 39 #[.pointer (some ⟨fb, 0, none⟩)] w fun e w' => e = .returned (.float .f64 (timeN o.has st)) ∧ Below w.heap.size w w' := by
  have c0 : w.cell? ⟨fb, 135, none⟩ = _ := h.stamps (i := 0) (by omega)
  have c1 : w.cell? ⟨fb, 136, none⟩ = _ := h.stamps (i := 1) (by omega)
  have c2 : w.cell? ⟨fb, 137, none⟩ = _ := h.stamps (i := 2) (by omega)
  have d0 : w.cell? ⟨fb, 36, none⟩ = _ := h.has (i := 0) (by omega)
  have d1 : w.cell? ⟨fb, 37, none⟩ = _ := h.has (i := 1) (by omega)
  have d2 : w.cell? ⟨fb, 38, none⟩ = _ := h.has (i := 2) (by omega)
  have hs0 := hst 0 (by omega)
  have hs1 := hst 1 (by omega)
  have hs2 := hst 2 (by omega)
  unfold timeN
  clear h hst
  generalize o.has 0 = b0 at *
  generalize o.has 1 = b1 at *
  generalize o.has 2 = b2 at *
  generalize st 0 = s0 at *
  generalize st 1 = s1 at *
  generalize st 2 = s2 at *
  have HL : Hid (∀ f ∈ [s1, s2], f < 18446744073709551616) := Lib.hid (fun f hf => by
    rcases List.mem_cons.1 hf with rfl | hf
    · exact hs1
    · rcases List.mem_cons.1 hf with rfl | hf
      · exact hs2
      · cases hf)
  have HK1 := Lib.hid (st_compare_any s0 s1 hs0 hs1)
  have HK2 := Lib.hid (st_compare_any s0 s2 hs0 hs2)
  have HC1 := Lib.hid (canon_any s1)
  have HC2 := Lib.hid (canon_any s2)
  clear hs0 hs1 hs2
  go_enter Tryd.func39, Tryd.ntmps39
  go_upto_region 1 with fail
  go_quiet (fail)
  have HB : Hid (Below w.heap.size w (w.drewN nq)) := Lib.hid (drewn _ _ _)
  have c0' : (w.drewN nq).cell? ⟨fb, 135, none⟩ = some (.float .f64 s0) := c0
  have d0' : (w.drewN nq).cell? ⟨fb, 36, none⟩ = some (.bool b0) := d0
  have d1' : (w.drewN nq).cell? ⟨fb, 37, none⟩ = some (.bool b1) := d1
  have d2' : (w.drewN nq).cell? ⟨fb, 38, none⟩ = some (.bool b2) := d2
  clear c0 c1 c2 d0 d1 d2
  generalize w.drewN nq = w1 at *
  cases b2
  · go_wp2_with fail
    refine (HC1.out _).mono ?_
    rintro e w' ⟨rfl, rfl⟩
    go_wp2_with fail
    go_ret
    exact ⟨by simp, HB.out⟩
  cases b1
  · go_wp2_with fail
    refine (HC2.out _).mono ?_
    rintro e w' ⟨rfl, rfl⟩
    go_wp2_with fail
    go_ret
    exact ⟨by simp, HB.out⟩
  have hk := new_five w1 #[.float .f64 s1, .float .f64 s2] 37
  have HF : Hid (FloatsAt (w1.alloc (.cells #[.float .f64 s1, .float .f64 s2] 37)) (some ⟨w1.heap.size, 0, none⟩) [s1, s2]) := Lib.hid (fun k hk2 => ⟨_, rfl, by
    have h3 : k = 0 ∨ k = 1 := by simp at hk2; omega
    rw [Addr.add_mid, cell_of_row _ _ _ _ _ _ hk]
    rcases h3 with rfl | rfl <;> rfl⟩)
  have HLA := Lib.hid (latest_any (some ⟨w1.heap.size, 0, none⟩) [s1, s2] 2 _ (by simp) HL.out HF.out)
  have HBA : Hid (Below w.heap.size w (w1.alloc (.cells #[.float .f64 s1, .float .f64 s2] 37))) := Lib.hid (HB.out.alloc HB.out.size _)
  clear hk HF HL
  cases b0
  · go_wp2_with fail
    refine HLA.out.mono ?_
    rintro e w' ⟨rfl, rfl⟩
    go_wp2_with fail
    go_ret
    exact ⟨by simp, HBA.out⟩
  obtain ⟨k1, hk1⟩ : ∃ k, cmpN (keyN s0) (keyN s1) = k := ⟨_, rfl⟩
  obtain ⟨k2, hk2⟩ : ∃ k, cmpN (keyN s0) (keyN s2) = k := ⟨_, rfl⟩
  have HE1 : Hid (k1 = 0 ↔ keyN s0 = keyN s1) := Lib.hid (by rw [← hk1]; exact cmpN_zero _ _)
  have HE2 : Hid (k2 = 0 ↔ keyN s0 = keyN s2) := Lib.hid (by rw [← hk2]; exact cmpN_zero _ _)
  rw [hk1] at HK1
  rw [hk2] at HK2
  clear hk1 hk2
  by_cases h1 : k1 = 0
  · have HQ := Lib.hid (HE1.out.1 h1)
    subst h1
    go_wp2_with fail
    refine (HK1.out _).mono ?_
    rintro e w' ⟨rfl, rfl⟩
    go_wp2_with fail
    refine (HC2.out _).mono ?_
    rintro e w' ⟨rfl, rfl⟩
    go_wp2_with fail
    go_ret
    exact ⟨by simp, HB.out⟩
  have HN1 := Lib.hid (fun e => h1 (HE1.out.2 e))
  have g1 : (k1 == 0) = false := by rw [beq_eq_false_iff_ne]; exact h1
  clear h1
  by_cases h2 : k2 = 0
  · have HQ := Lib.hid (HE2.out.1 h2)
    subst h2
    go_wp2_with fail
    refine (HK1.out _).mono ?_
    rintro e w' ⟨rfl, rfl⟩
    go_wp2_with fail
    refine (HK2.out _).mono ?_
    rintro e w' ⟨rfl, rfl⟩
    go_wp2_with fail
    refine (HC1.out _).mono ?_
    rintro e w' ⟨rfl, rfl⟩
    go_wp2_with fail
    go_ret
    have hn1 := HN1.out
    have hq := HQ.out
    rw [hq] at hn1
    exact ⟨by simp, HB.out⟩
  have HN2 := Lib.hid (fun e => h2 (HE2.out.2 e))
  have g2 : (k2 == 0) = false := by rw [beq_eq_false_iff_ne]; exact h2
  clear h2
  go_wp2_with fail
  refine (HK1.out _).mono ?_
  rintro e w' ⟨rfl, rfl⟩
  go_wp2_with fail
  refine (HK2.out _).mono ?_
  rintro e w' ⟨rfl, rfl⟩
  go_wp2_with fail
  refine HLA.out.mono ?_
  rintro e w' ⟨rfl, rfl⟩
  go_wp2_with fail
  go_ret
  have hn1 := HN1.out
  have hn2 := HN2.out
  exact ⟨by simp, HBA.out⟩
end Go.Proofs.YtjlpdoppnhcjoaaDoor
