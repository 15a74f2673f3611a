/- The numbers of one round of the reference's Sum. -/
import Derived.Test.YtdolonkeanlaoaaDoorShaY
import Derived.Laws.Bits64
namespace Go.Proofs.YtdolonkeanlaoaaDoor
open Go.RowKit

/-- What is reckoned in one round, number by number. -/
structure RoundIs (a b c d e f g h pk wk ch mo g0 g1 t u z1 z2 : Nat) : Prop where
  out : roundN ⟨a, b, c, d, e, f, g, h⟩ pk wk = ⟨z1, a, b, c, z2, e, f, g⟩
  y1 : bits .and .u64 (e : Int) (f : Int) = ((e &&& f : Nat) : Int)
  y2 : bits .and .u64 (4294967295 - (e : Int)) (g : Int) = (((4294967295 - e) &&& g : Nat) : Int)
  y3 : bits .xor .u64 ((e &&& f : Nat) : Int) (((4294967295 - e) &&& g : Nat) : Int) = (ch : Int)
  y4 : bits .and .u64 (a : Int) (b : Int) = ((a &&& b : Nat) : Int)
  y5 : bits .and .u64 (a : Int) (c : Int) = ((a &&& c : Nat) : Int)
  y6 : bits .and .u64 (b : Int) (c : Int) = ((b &&& c : Nat) : Int)
  y7 : bits .xor .u64 ((a &&& b : Nat) : Int) ((a &&& c : Nat) : Int) = (((a &&& b) ^^^ (a &&& c) : Nat) : Int)
  y8 : bits .xor .u64 (((a &&& b) ^^^ (a &&& c) : Nat) : Int) ((b &&& c : Nat) : Int) = (mo : Int)
  y9 : bits .xor .u64 ((rotN a 2 : Nat) : Int) ((rotN a 13 : Nat) : Int) = ((rotN a 2 ^^^ rotN a 13 : Nat) : Int)
  y10 : bits .xor .u64 ((rotN a 2 ^^^ rotN a 13 : Nat) : Int) ((rotN a 22 : Nat) : Int) = (g0 : Int)
  y11 : bits .xor .u64 ((rotN e 6 : Nat) : Int) ((rotN e 11 : Nat) : Int) = ((rotN e 6 ^^^ rotN e 11 : Nat) : Int)
  y12 : bits .xor .u64 ((rotN e 6 ^^^ rotN e 11 : Nat) : Int) ((rotN e 25 : Nat) : Int) = (g1 : Int)
  t1 : IntKind.u64.wrap ((h : Int) + (g1 : Int)) = (h : Int) + (g1 : Int)
  t2 : IntKind.u64.wrap ((h : Int) + (g1 : Int) + (ch : Int)) = (h : Int) + (g1 : Int) + (ch : Int)
  t3 : IntKind.u64.wrap ((h : Int) + (g1 : Int) + (ch : Int) + (pk : Int)) = (h : Int) + (g1 : Int) + (ch : Int) + (pk : Int)
  t4 : IntKind.u64.wrap ((h : Int) + (g1 : Int) + (ch : Int) + (pk : Int) + (wk : Int)) = (t : Int)
  t5 : IntKind.u64.wrap ((g0 : Int) + (mo : Int)) = (u : Int)
  t6 : IntKind.u64.wrap ((t : Int) + (u : Int)) = (t : Int) + (u : Int)
  t7 : ((t : Int) + (u : Int)).tmod 4294967296 = (z1 : Int)
  t8 : IntKind.u64.wrap ((d : Int) + (t : Int)) = (d : Int) + (t : Int)
  t9 : ((d : Int) + (t : Int)).tmod 4294967296 = (z2 : Int)
  t10 : IntKind.u64.wrap (4294967295 - (e : Int)) = 4294967295 - (e : Int)
theorem wrap_id {n : Nat} {x : Int} (h : x = (n : Int)) (hn : n < 18446744073709551616) : IntKind.u64.wrap x = x := by
  rw [IntKind.wrap_u64]; omega
theorem and64 {a b : Nat} (ha : a < 4294967296) (hb : b < 4294967296) : bits .and .u64 (a : Int) (b : Int) = ((a &&& b : Nat) : Int) := bits_and_u64_nat _ _ (by omega) (by omega)
theorem xor64 {a b : Nat} (ha : a < 4294967296) (hb : b < 4294967296) : bits .xor .u64 (a : Int) (b : Int) = ((a ^^^ b : Nat) : Int) := bits_xor_u64_nat _ _ (by omega) (by omega)
theorem and_lt32 {a b : Nat} (ha : a < 4294967296) : a &&& b < 4294967296 := Nat.lt_of_le_of_lt Nat.and_le_left ha
theorem and_lt32' {a b : Nat} (hb : b < 4294967296) : a &&& b < 4294967296 := Nat.lt_of_le_of_lt Nat.and_le_right hb
theorem xor_lt32 {a b : Nat} (ha : a < 4294967296) (hb : b < 4294967296) : a ^^^ b < 4294967296 := Nat.xor_lt_two_pow (n := 32) (by omega) (by omega)
theorem sum_wraps {h g1 ch pk wk : Nat} (b1 : h < 4294967296) (b2 : g1 < 4294967296) (b3 : ch < 4294967296) (b4 : pk < 4294967296) (b5 : wk < 4294967296) :
    IntKind.u64.wrap ((h : Int) + (g1 : Int)) = (h : Int) + (g1 : Int) ∧ IntKind.u64.wrap ((h : Int) + (g1 : Int) + (ch : Int)) = (h : Int) + (g1 : Int) + (ch : Int) ∧
    IntKind.u64.wrap ((h : Int) + (g1 : Int) + (ch : Int) + (pk : Int)) = (h : Int) + (g1 : Int) + (ch : Int) + (pk : Int) ∧ IntKind.u64.wrap ((h : Int) + (g1 : Int) + (ch : Int) + (pk : Int) + (wk : Int)) = ((h + g1 + ch + pk + wk : Nat) : Int) := by
  refine ⟨?_, ?_, ?_, ?_⟩ <;> rw [IntKind.wrap_u64] <;> omega
theorem tu_two {t u : Nat} (b1 : t < 34359738368) (b2 : u < 34359738368) : IntKind.u64.wrap ((t : Int) + (u : Int)) = (t : Int) + (u : Int) ∧ IntKind.u64.wrap ((t : Int) + (u : Int)) = ((t + u : Nat) : Int) ∧ ((t : Int) + (u : Int)).tmod 4294967296 = (((t + u) % 4294967296 : Nat) : Int) := by
  refine ⟨?_, ?_, ?_⟩
  · rw [IntKind.wrap_u64]; omega
  · rw [IntKind.wrap_u64]; omega
  · rw [Int.tmod_eq_emod_of_nonneg (by omega)]; omega
theorem below_max {e : Nat} (b : e < 4294967296) : IntKind.u64.wrap (4294967295 - (e : Int)) = 4294967295 - (e : Int) := by rw [IntKind.wrap_u64]; omega
theorem less_max {e : Nat} (b : e < 4294967296) : (4294967295 - (e : Int)) = ((4294967295 - e : Nat) : Int) := by omega
theorem round_is {a b c d e f g h pk wk : Nat} (ha : a < two32) (hb : b < two32) (hc : c < two32) (hd : d < two32) (he : e < two32) (hf : f < two32) (hg : g < two32) (hh : h < two32) (hp : pk < two32) (hw : wk < two32) :
    ∃ ch mo g0 g1 t u z1 z2, RoundIs a b c d e f g h pk wk ch mo g0 g1 t u z1 z2 := by
  have s1 := big0_lt ha
  have s2 := big1_lt he
  have s3 := chooseN_lt (f := f) (g := g) he
  have s4 := mostN_lt (c := c) ha hb
  have o1 := rotN_lt ha (n := 2) (by omega)
  have o2 := rotN_lt ha (n := 13) (by omega)
  have o3 := rotN_lt ha (n := 22) (by omega)
  have o4 := rotN_lt he (n := 6) (by omega)
  have o5 := rotN_lt he (n := 11) (by omega)
  have o6 := rotN_lt he (n := 25) (by omega)
  have hE : two32 = 4294967296 := rfl
  have hR : roundN ⟨a, b, c, d, e, f, g, h⟩ pk wk = ⟨(h + big1 e + chooseN e f g + pk + wk + (big0 a + mostN a b c)) % 4294967296, a, b, c, (d + (h + big1 e + chooseN e f g + pk + wk)) % 4294967296, e, f, g⟩ := rfl
  rw [hE] at s1 s2 s3 s4 o1 o2 o3 o4 o5 o6 ha hb hc hd he hf hg hh hp hw
  have q3 : bits .xor .u64 ((e &&& f : Nat) : Int) (((4294967295 - e) &&& g : Nat) : Int) = ((chooseN e f g : Nat) : Int) := xor64 (and_lt32 he) (and_lt32' hg)
  have q8 : bits .xor .u64 (((a &&& b) ^^^ (a &&& c) : Nat) : Int) ((b &&& c : Nat) : Int) = ((mostN a b c : Nat) : Int) := xor64 (xor_lt32 (and_lt32 ha) (and_lt32 ha)) (and_lt32 hb)
  have q10 : bits .xor .u64 ((rotN a 2 ^^^ rotN a 13 : Nat) : Int) ((rotN a 22 : Nat) : Int) = ((big0 a : Nat) : Int) := xor64 (xor_lt32 o1 o2) o3
  have q12 : bits .xor .u64 ((rotN e 6 ^^^ rotN e 11 : Nat) : Int) ((rotN e 25 : Nat) : Int) = ((big1 e : Nat) : Int) := xor64 (xor_lt32 o4 o5) o6
  obtain ⟨w1, w2, w3, w4⟩ := sum_wraps hh s2 s3 hp hw
  obtain ⟨v1, v2, v3⟩ := tu_two (t := big0 a) (u := mostN a b c) (by omega) (by omega)
  obtain ⟨x1, x2, x3⟩ := tu_two (t := h + big1 e + chooseN e f g + pk + wk) (u := big0 a + mostN a b c) (by omega) (by omega)
  obtain ⟨u1, u2, u3⟩ := tu_two (t := d) (u := h + big1 e + chooseN e f g + pk + wk) (by omega) (by omega)
  exact ⟨chooseN e f g, mostN a b c, big0 a, big1 e, _, _, _, _, hR, and64 he hf, by rw [less_max he]; exact and64 (by omega) hg, q3, and64 ha hb, and64 ha hc, and64 hb hc, xor64 (and_lt32 ha) (and_lt32 ha), q8, xor64 o1 o2, q10, xor64 o4 o5, q12, w1, w2, w3, w4, v2, x1, x3, u1, u3, below_max he⟩
end Go.Proofs.YtdolonkeanlaoaaDoor
