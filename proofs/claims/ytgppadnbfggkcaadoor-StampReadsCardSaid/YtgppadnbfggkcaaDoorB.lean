/- Contracts: strconv.FormatUint at base 10. -/
import Derived.Test.YtgppadnbfggkcaaDoorA
import Derived.Test.YtgppadnbfggkcaaDoorShelf
import Derived.Lib.ItoaMem
import Derived.Lib.Walk
namespace Go.Proofs.YtgppadnbfggkcaaDoor
open Go.RowKit Go.Shelf Go.Sort Go.Lib

set_option maxHeartbeats 1600000 in
set_option maxRecDepth 100000 in
theorem fmtu_small (i : Nat) (hi : i < 100) (w : World) :
    Calls Tryd.prog 49 #[.int .u64 i, .int .i64 10] w fun e w' => e = .returned (.string ⟨(Lib.decDigits i).toArray⟩) ∧ w = w' := by
  go_enter Tryd.func49, Tryd.ntmps49
  go_wp2_with (go_at_call 58; refine (Tryd.internal_strconv_small i hi _).mono ?_; rintro e w' ⟨rfl, rfl⟩)
  go_ret
  exact ⟨rfl, rfl⟩

theorem holds_zero0 (w : World) (T : TypeId) (nd : Nat) (hs : nd ≤ 24) : Holds (fun (b : UInt8) => Value.int .u8 (b.toNat : Int)) (w.alloc (.cells zeros24 T)) w.heap.size 0 (Array.replicate nd (0 : UInt8)) := fun j hj => by
  have hj' : j < nd := by simpa using hj
  refine ⟨?_, World.frozen?_alloc_new _ _ _ _⟩
  rw [World.cell?_alloc_new, zeros24_at _ (by omega), getElem!_pos _ j hj]
  simp

theorem fin_pos0 (w : World) (o : Obj) (dk : Array UInt8) (k : Nat) : ∃ os, (putRow (fun (b : UInt8) => Value.int .u8 (b.toNat : Int)) (w.alloc o) w.heap.size 0 dk).drewN k = grow (w.drewN k) os := by
  rw [alloc_eq_grow]
  obtain ⟨os', _, e⟩ := putRow_grow_new (fun (b : UInt8) => Value.int .u8 (b.toNat : Int)) w #[o] w.heap.size 0 dk (Nat.le_refl _)
  exact ⟨os', by rw [e]; rfl⟩
theorem below_grow' (w : World) (q : Nat) (os : Array Obj) : Below w.heap.size w (grow (w.drewN q) os) :=
  ⟨rfl, rfl, rfl, by simp [grow], fun i hi => by
    show ((w.drewN q).heap ++ os)[i]? = _
    rw [Array.getElem?_append_left (by show i < w.heap.size; omega)]
    rfl⟩
set_option maxHeartbeats 1600000 in
set_option maxRecDepth 100000 in
theorem fmtu_big (u : Nat) (hu : 100 ≤ u) (hu64 : u < 18446744073709551616) (w : World)
    (htab : Lib.TabIs Tryd.prog w "internal/strconv.uint64pow10" .u64 Lib.pow10Tab) :
    Calls Tryd.prog 49 #[.int .u64 u, .int .i64 10] w fun e w' => e = .returned (.string ⟨(Lib.decDigits u).toArray⟩) ∧ Below w.heap.size w w' := by
  have hnd20 : Lib.nDigits u ≤ 20 := by have := Lib.numDigits_eq u (by omega) hu64; split at this <;> omega
  have hb3 : Lib.nDigits u ≤ 24 := by omega
  have hal : Tryd.prog.arrayLen 75 = 24 := by simp [Program.arrayLen, Tryd.underlying75]
  have hsl1 : ∀ W, (Instr.sliceAt 75 (.pointer (some ⟨w.heap.size, 0, none⟩)) none (some (.int .i64 (Lib.nDigits u : Int))) none).run Tryd.prog W = .ok (.slice (some ⟨w.heap.size, 0, none⟩) (Lib.nDigits u) 24) W := fun W => by
    rw [run_sliceAt_array_h W 75 ⟨w.heap.size, 0, none⟩ (by simp [Program.arrayLen, Program.elem, Tryd.underlying75]) .i64 (Lib.nDigits u : Int) (by omega) (by rw [hal]; omega)]
    go_simp
    try omega
  have hH0 := holds_zero0 w 75 (Lib.nDigits u) (by omega)
  have hfmt := Tryd.internal_strconv_formatBase10 w.heap.size 0 24 u (Array.replicate (Lib.nDigits u) 0) (w.alloc (.cells Lib.zeros24 75)) hH0 (by rw [Array.size_replicate]; exact Lib.lt_pow_nDigits u) hu64 (by rw [Array.size_replicate]; omega)
  rw [Array.size_replicate] at hfmt
  have HH0 := Lib.hid hH0
  clear hH0 hal
  go_enter Tryd.func49, Tryd.ntmps49
  go_wp2_with (go_at_call 59; refine (Tryd.internal_strconv_numDigits u (by omega) hu64 _ (Lib.tabIs_alloc htab _)).mono ?_; rintro e w' ⟨rfl, rfl⟩)
  go_at_call 60
  refine hfmt.mono ?_
  rintro e w' ⟨rfl, k, v', dk, rfl, hF⟩
  have hcv : (convert 77 9 (.slice (some ⟨w.heap.size, 0, none⟩) (Lib.nDigits u) 24)).run Tryd.prog ((putRow (fun (b : UInt8) => Value.int .u8 (b.toNat : Int)) (w.alloc (.cells Lib.zeros24 75)) w.heap.size 0 dk).drewN k) = .ok (.string ⟨(Lib.decDigits u).toArray⟩) ((putRow (fun (b : UInt8) => Value.int .u8 (b.toNat : Int)) (w.alloc (.cells Lib.zeros24 75)) w.heap.size 0 dk).drewN k) := by
    have h := run_convert_bytes_back (P := Tryd.prog) ((putRow (fun (b : UInt8) => Value.int .u8 (b.toNat : Int)) (w.alloc (.cells Lib.zeros24 75)) w.heap.size 0 dk).drewN k) 77 9 5 ⟨w.heap.size, 0, none⟩ 24 (Lib.decDigits u) Tryd.underlying77 Tryd.underlying5 Tryd.underlying9 (fun j hj => by
      rw [Lib.row_is_numeral hF j hj, Lib.add_plain, World.cell?_drewN]
      exact cell?_putRow (fun (b : UInt8) => Value.int .u8 (b.toNat : Int)) _ w.heap.size 0 _ dk HH0.out (by rw [hF.size, Array.size_replicate]) j (by rw [hF.size]; rw [Lib.decDigits_length] at hj; exact hj))
    rw [Lib.decDigits_length] at h
    exact h
  go_wp2
  go_ret
  refine ⟨rfl, ?_⟩
  obtain ⟨os, eo⟩ := fin_pos0 w (.cells Lib.zeros24 75) dk k
  rw [eo]
  exact below_grow' w k os

theorem fmtu_any (u : Nat) (hu64 : u < 18446744073709551616) (w : World)
    (htab : Lib.TabIs Tryd.prog w "internal/strconv.uint64pow10" .u64 Lib.pow10Tab) :
    Calls Tryd.prog 49 #[.int .u64 u, .int .i64 10] w fun e w' => e = .returned (.string ⟨(Lib.decDigits u).toArray⟩) ∧ Below w.heap.size w w' := by
  by_cases h : u < 100
  · refine (fmtu_small u h w).mono ?_; rintro e w' ⟨rfl, rfl⟩; exact ⟨rfl, Below.refl _ _⟩
  · exact fmtu_big u (by omega) hu64 w htab
set_option maxHeartbeats 400000 in
theorem fmtu_pub (u : Nat) (hu64 : u < 18446744073709551616) (w : World)
    (htab : Lib.TabIs Tryd.prog w "internal/strconv.uint64pow10" .u64 Lib.pow10Tab) :
    Calls Tryd.prog 40 #[.int .u64 u, .int .i64 10] w fun e w' => e = .returned (.string ⟨(Lib.decDigits u).toArray⟩) ∧ Below w.heap.size w w' := by
  go_enter Tryd.func40, Tryd.ntmps40
  go_wp2_with (go_at_call 49; refine (fmtu_any u hu64 _ htab).mono ?_; rintro e w' ⟨rfl, hb⟩)
  go_ret
  exact ⟨rfl, hb⟩

/- math.Abs, IsInf, Signbit. -/
theorem run_neg (b : Nat) (hb : b < 18446744073709551616) (w : World) : (Op.unary .neg (.float .f64 b)).run Tryd.prog w = .ok (.float .f64 (negB b)) w := by
  rw [← negFloat_eq hb]; rfl
set_option maxHeartbeats 400000 in
theorem isinf_pos (b : Nat) (w : World) :
    Calls Tryd.prog 22 #[.float .f64 b, .int .i64 1] w fun e w' => e = .returned (.bool (infB b)) ∧ w = w' := by
  go_enter Tryd.func22, Tryd.ntmps22
  go_wp2
  go_ret
  exact ⟨rfl, rfl⟩
set_option maxHeartbeats 400000 in
theorem isinf_neg (b : Nat) (hb : b < 18446744073709551616) (w : World) :
    Calls Tryd.prog 22 #[.float .f64 b, .int .i64 (-1)] w fun e w' => e = .returned (.bool (infB (negB b))) ∧ w = w' := by
  have hn := fun w => run_neg b hb w
  clear hb
  go_enter Tryd.func22, Tryd.ntmps22
  go_wp2
  go_ret
  exact ⟨rfl, rfl⟩
set_option maxHeartbeats 400000 in
theorem abs_any (b : Nat) (hb : b < 18446744073709551616) (w : World) :
    Calls Tryd.prog 35 #[.float .f64 b] w fun e w' => e = .returned (.float .f64 (b % 9223372036854775808)) ∧ w = w' := by
  have h14 := fb14
  have h27 := fb27
  go_enter Tryd.func35, Tryd.ntmps35
  go_wp2
  go_ret
  refine ⟨?_, rfl⟩
  have e := u64_andNot_nat b 9223372036854775808 hb (by omega)
  rw [show (18446744073709551615 - 9223372036854775808 : Nat) = 2 ^ 63 - 1 from rfl, Nat.and_two_pow_sub_one_eq_mod] at e
  have e2 : bits .andNot .u64 (b : Int) 9223372036854775808 = ((b % 2 ^ 63 : Nat) : Int) := e
  simp only [e2]; rfl
set_option maxHeartbeats 400000 in
theorem isinf_any (b : Nat) (hb : b < 18446744073709551616) (w : World) :
    Calls Tryd.prog 22 #[.float .f64 b, .int .i64 0] w fun e w' => e = .returned (.bool (infB (b % 9223372036854775808))) ∧ w = w' := by
  go_enter Tryd.func22, Tryd.ntmps22
  go_wp2_with (go_at_call 35; refine (abs_any b hb _).mono ?_; rintro e w' ⟨rfl, rfl⟩)
  go_ret
  exact ⟨rfl, rfl⟩
theorem wrap_top {b : Nat} (hb : b < 18446744073709551616) : decide (wrap64 (b : Int) < 0) = topB b := by
  unfold topB wrap64
  rw [Bool.eq_iff_iff]; simp only [decide_eq_true_eq]
  constructor <;> intro h <;> (try split at *) <;> omega
set_option maxHeartbeats 400000 in
theorem signbit_any (b : Nat) (hb : b < 18446744073709551616) (w : World) :
    Calls Tryd.prog 24 #[.float .f64 b] w fun e w' => e = .returned (.bool (topB b)) ∧ w = w' := by
  have h14 := fb14
  go_enter Tryd.func24, Tryd.ntmps24
  go_wp2
  go_ret
  refine ⟨?_, rfl⟩
  rw [← wrap_top hb]; rfl
/- split. -/
theorem and52 (b : Nat) (hb : b < 18446744073709551616) : bits .and .u64 (b : Int) 4503599627370495 = ((b % 4503599627370496 : Nat) : Int) := by
  have e := u64_and_nat b 4503599627370495 hb (by omega)
  rw [show (4503599627370495 : Nat) = 2 ^ 52 - 1 from rfl, Nat.and_two_pow_sub_one_eq_mod] at e
  exact e
theorem or52 (m : Nat) (hm : m < 4503599627370496) : bits .or .u64 (m : Int) 4503599627370496 = ((4503599627370496 + m : Nat) : Int) := by
  have e := u64_or_nat m 4503599627370496 (by omega) (by omega)
  rw [Nat.or_comm, show (4503599627370496 : Nat) = 2 ^ 52 from rfl, nat_join 52 _ _ (by omega) hm] at e
  exact e
theorem shr52 {b : Nat} (hb : b < 9218868437227405312) : wrap64 ((b : Int) / 4503599627370496) = ((b / 4503599627370496 : Nat) : Int) := by
  unfold wrap64; omega
theorem tz_any (x : Nat) (hx : x < 18446744073709551616) (w : World) (hT : Go.Proofs.TabAt 1 Lib.deBruijn64tab w) :
    Calls Tryd.prog 48 #[.int .u64 x] w fun e w' => e = .returned (.int .i64 (Lib.ctz 64 x)) ∧ w' = w := Any7.bits_TrailingZeros64 Tryd.lays7n29 x hx w (fun _ => hT)
theorem ret_ui {a a' b b' : Int} (h1 : a = a') (h2 : b = b') : Ending.returned (.tuple #[.int .u64 a, .int .i64 b]) = .returned (.tuple #[.int .u64 a', .int .i64 b']) := by rw [h1, h2]
theorem ctz_lt {x : Nat} (h0 : x ≠ 0) (hx : x < 18446744073709551616) : Lib.ctz 64 x < 64 := (Lib.lowest_bit 64 x h0 hx).2
theorem odd_val {m k : Nat} (hk : k < 64) : ((m : Int)) / 2 ^ min k 64 = ((m / 2 ^ k : Nat) : Int) := by
  rw [show min k 64 = k by omega]; simp
set_option maxHeartbeats 400000 in
theorem split_big (b : Nat) (h0 : 4503599627370496 ≤ b) (hb : b < 9218868437227405312) (w : World) (hT : Go.Proofs.TabAt 1 Lib.deBruijn64tab w) :
    Calls Tryd.prog 39 #[.float .f64 b] w fun e w' => e = .returned (.tuple #[.int .u64 (oddB b), .int .i64 (powB b)]) ∧ w = w' := by
  have h14 := fb14
  have htz := tz_any (4503599627370496 + b % 4503599627370496) (by omega) w hT
  have Htz := Lib.hid htz
  have HT := Lib.hid hT
  clear htz hT
  go_enter Tryd.func39, Tryd.ntmps39
  go_wp2_with fail
  · rw [and52 b (by omega), or52 _ (by omega)]
    refine Htz.out.mono ?_
    rintro e w' ⟨rfl, rfl⟩
    go_wp2
    go_ret2
    refine ⟨ret_ui ?_ ?_, rfl⟩
    · have hk := ctz_lt (x := 4503599627370496 + b % 4503599627370496) (by omega) (by omega)
      have e : fracB b = 4503599627370496 + b % 4503599627370496 := by unfold fracB; rw [if_neg (by omega)]
      unfold oddB; rw [e, ← odd_val hk]; simp
    · have hk := ctz_lt (x := 4503599627370496 + b % 4503599627370496) (by omega) (by omega)
      have e : fracB b = 4503599627370496 + b % 4503599627370496 := by unfold fracB; rw [if_neg (by omega)]
      have e2 : placeB b = -1074 + ((b / 4503599627370496 - 1 : Nat) : Int) := by unfold placeB; rw [if_neg (by omega)]
      unfold powB; rw [e, e2]
      generalize Lib.ctz 64 (4503599627370496 + b % 4503599627370496) = k at *
      unfold wrap64; omega
set_option maxHeartbeats 400000 in
theorem split_low (b : Nat) (h0 : 0 < b) (hb : b < 4503599627370496) (w : World) (hT : Go.Proofs.TabAt 1 Lib.deBruijn64tab w) :
    Calls Tryd.prog 39 #[.float .f64 b] w fun e w' => e = .returned (.tuple #[.int .u64 (oddB b), .int .i64 (powB b)]) ∧ w = w' := by
  have h14 := fb14
  have htz := tz_any b (by omega) w hT
  have Htz := Lib.hid htz
  have HT := Lib.hid hT
  clear htz hT
  go_enter Tryd.func39, Tryd.ntmps39
  go_wp2_with fail
  · rw [and52 b (by omega), show b % 4503599627370496 = b by omega]
    refine Htz.out.mono ?_
    rintro e w' ⟨rfl, rfl⟩
    go_wp2
    go_ret2
    have e : fracB b = b := by unfold fracB; rw [if_pos (by omega)]
    have e2 : placeB b = -1074 := by unfold placeB; rw [if_pos (by omega)]
    have hk := ctz_lt (x := b) (by omega) (by omega)
    refine ⟨ret_ui ?_ ?_, rfl⟩
    · unfold oddB; rw [e, ← odd_val hk]
    · unfold powB; rw [e, e2]
      generalize Lib.ctz 64 b = k at *
      unfold wrap64; omega
theorem split_any (b : Nat) (h0 : 0 < b) (hb : b < 9218868437227405312) (w : World) (hT : Go.Proofs.TabAt 1 Lib.deBruijn64tab w) :
    Calls Tryd.prog 39 #[.float .f64 b] w fun e w' => e = .returned (.tuple #[.int .u64 (oddB b), .int .i64 (powB b)]) ∧ w' = w := by
  by_cases h : b < 4503599627370496
  · refine (split_low b h0 h w hT).mono ?_; rintro e w' ⟨rfl, rfl⟩; exact ⟨rfl, rfl⟩
  · refine (split_big b (by omega) hb w hT).mono ?_; rintro e w' ⟨rfl, rfl⟩; exact ⟨rfl, rfl⟩
end Go.Proofs.YtgppadnbfggkcaaDoor
