/- The sum as a function on bytes and numbers, as the document defines it. -/
import Derived.Test.YteijekhmgedhoaaDoorShaE
import Derived.Laws.Bits64
namespace Go.Proofs.YteijekhmgedhoaaDoor
open Go.RowKit

def sml0 (x : Nat) : Nat := (rotN x 7 ^^^ rotN x 18) ^^^ x / 2 ^ 3
def sml1 (x : Nat) : Nat := (rotN x 17 ^^^ rotN x 19) ^^^ x / 2 ^ 10
def big0 (x : Nat) : Nat := (rotN x 2 ^^^ rotN x 13) ^^^ rotN x 22
def big1 (x : Nat) : Nat := (rotN x 6 ^^^ rotN x 11) ^^^ rotN x 25
def chooseN (e f g : Nat) : Nat := (e &&& f) ^^^ ((4294967295 - e) &&& g)
def mostN (a b c : Nat) : Nat := ((a &&& b) ^^^ (a &&& c)) ^^^ (b &&& c)
/-- The word of four bytes at i. -/
def wordAt (b : List UInt8) (i : Nat) : Nat := (((b.getD i 0).toNat * 256 + (b.getD (i + 1) 0).toNat) * 256 + (b.getD (i + 2) 0).toNat) * 256 + (b.getD (i + 3) 0).toNat
/-- The first i words of the block that begins at byte o. -/
def schedL (b : List UInt8) (o : Nat) : Nat → List Nat
  | 0 => []
  | i + 1 =>
    let l := schedL b o i
    l ++ [if i < 16 then wordAt b (o + 4 * i) else (l.getD (i - 16) 0 + l.getD (i - 7) 0 + sml0 (l.getD (i - 15) 0) + sml1 (l.getD (i - 2) 0)) % two32]
structure Eight where
  a : Nat
  b : Nat
  c : Nat
  d : Nat
  e : Nat
  f : Nat
  g : Nat
  h : Nat
def Eight.list (v : Eight) : List Nat := [v.a, v.b, v.c, v.d, v.e, v.f, v.g, v.h]
def startE : Eight := ⟨1779033703, 3144134277, 1013904242, 2773480762, 1359893119, 2600822924, 528734635, 1541459225⟩
def roundN (v : Eight) (k w : Nat) : Eight :=
  let t := v.h + big1 v.e + chooseN v.e v.f v.g + k + w
  let u := big0 v.a + mostN v.a v.b v.c
  ⟨(t + u) % two32, v.a, v.b, v.c, (v.d + t) % two32, v.e, v.f, v.g⟩
/-- What stands behind i rounds. -/
def roundsN (ws : List Nat) (v : Eight) : Nat → Eight
  | 0 => v
  | i + 1 => roundN (roundsN ws v i) (partsL.getD i 0) (ws.getD i 0)
def addE (x y : Eight) : Eight := ⟨(x.a + y.a) % two32, (x.b + y.b) % two32, (x.c + y.c) % two32, (x.d + y.d) % two32, (x.e + y.e) % two32, (x.f + y.f) % two32, (x.g + y.g) % two32, (x.h + y.h) % two32⟩
def blockN (b : List UInt8) (o : Nat) (h : Eight) : Eight := addE h (roundsN (schedL b o 64) h 64)
/-- What stands behind n blocks. -/
def blocksN (b : List UInt8) : Nat → Eight
  | 0 => startE
  | n + 1 => blockN b (64 * n) (blocksN b n)
def fillN (n : Nat) : Nat := (119 - n % 64) % 64
def placesN (n : Nat) : List UInt8 := [UInt8.ofNat (n / 2 ^ 56 % 256), UInt8.ofNat (n / 2 ^ 48 % 256), UInt8.ofNat (n / 2 ^ 40 % 256), UInt8.ofNat (n / 2 ^ 32 % 256), UInt8.ofNat (n / 2 ^ 24 % 256), UInt8.ofNat (n / 2 ^ 16 % 256), UInt8.ofNat (n / 2 ^ 8 % 256), UInt8.ofNat (n % 256)]
def padL (s : List UInt8) : List UInt8 := s ++ [128] ++ List.replicate (fillN s.length) 0 ++ placesN (s.length * 8)
def outB (h : List Nat) (i : Nat) : UInt8 := UInt8.ofNat (h.getD (i / 4) 0 / 2 ^ (24 - 8 * (i % 4)) % 256)
def sumN (s : List UInt8) : List UInt8 := (List.range 32).map (outB (blocksN (padL s) ((padL s).length / 64)).list)
theorem sumN_len (s : List UInt8) : (sumN s).length = 32 := by unfold sumN; simp
theorem padL_len (s : List UInt8) : (padL s).length % 64 = 0 ∧ (padL s).length = s.length + 9 + fillN s.length := by
  unfold padL placesN fillN
  simp only [List.length_append, List.length_replicate, List.length_cons, List.length_nil]
  omega
theorem sml0_lt {x : Nat} (h : x < two32) : sml0 x < two32 := by
  have e : two32 = 2 ^ 32 := rfl
  have h1 := rotN_lt h (n := 7) (by omega)
  have h2 := rotN_lt h (n := 18) (by omega)
  have h3 : x / 2 ^ 3 < two32 := Nat.lt_of_le_of_lt (Nat.div_le_self _ _) h
  unfold sml0
  rw [e] at *
  exact Nat.xor_lt_two_pow (Nat.xor_lt_two_pow h1 h2) h3
theorem sml1_lt {x : Nat} (h : x < two32) : sml1 x < two32 := by
  have e : two32 = 2 ^ 32 := rfl
  have h1 := rotN_lt h (n := 17) (by omega)
  have h2 := rotN_lt h (n := 19) (by omega)
  have h3 : x / 2 ^ 10 < two32 := Nat.lt_of_le_of_lt (Nat.div_le_self _ _) h
  unfold sml1
  rw [e] at *
  exact Nat.xor_lt_two_pow (Nat.xor_lt_two_pow h1 h2) h3
theorem big0_lt {x : Nat} (h : x < two32) : big0 x < two32 := by
  have e : two32 = 2 ^ 32 := rfl
  have h1 := rotN_lt h (n := 2) (by omega)
  have h2 := rotN_lt h (n := 13) (by omega)
  have h3 := rotN_lt h (n := 22) (by omega)
  unfold big0
  rw [e] at *
  exact Nat.xor_lt_two_pow (Nat.xor_lt_two_pow h1 h2) h3
theorem big1_lt {x : Nat} (h : x < two32) : big1 x < two32 := by
  have e : two32 = 2 ^ 32 := rfl
  have h1 := rotN_lt h (n := 6) (by omega)
  have h2 := rotN_lt h (n := 11) (by omega)
  have h3 := rotN_lt h (n := 25) (by omega)
  unfold big1
  rw [e] at *
  exact Nat.xor_lt_two_pow (Nat.xor_lt_two_pow h1 h2) h3
theorem chooseN_lt {e f g : Nat} (he : e < two32) : chooseN e f g < two32 := by
  have h : two32 = 2 ^ 32 := rfl
  unfold chooseN
  rw [h] at *
  exact Nat.xor_lt_two_pow (Nat.lt_of_le_of_lt Nat.and_le_left he) (Nat.lt_of_le_of_lt Nat.and_le_left (by omega))
theorem mostN_lt {a b c : Nat} (ha : a < two32) (hb : b < two32) : mostN a b c < two32 := by
  have h : two32 = 2 ^ 32 := rfl
  unfold mostN
  rw [h] at *
  exact Nat.xor_lt_two_pow (Nat.xor_lt_two_pow (Nat.lt_of_le_of_lt Nat.and_le_left ha) (Nat.lt_of_le_of_lt Nat.and_le_left ha)) (Nat.lt_of_le_of_lt Nat.and_le_left hb)
set_option maxRecDepth 100000 in
theorem sum_abc : hexL (sumN [97, 98, 99]) = [98, 97, 55, 56, 49, 54, 98, 102, 56, 102, 48, 49, 99, 102, 101, 97, 52, 49, 52, 49, 52, 48, 100, 101, 53, 100, 97, 101, 50, 50, 50, 51, 98, 48, 48, 51, 54, 49, 97, 51, 57, 54, 49, 55, 55, 97, 57, 99, 98, 52, 49, 48, 102, 102, 54, 49, 102, 50, 48, 48, 49, 53, 97, 100] := by kernel_rfl
end Go.Proofs.YteijekhmgedhoaaDoor
