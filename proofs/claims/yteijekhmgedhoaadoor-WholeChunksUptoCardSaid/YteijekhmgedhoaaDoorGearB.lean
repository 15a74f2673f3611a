/- A chunk's hash, where it ends, its length; the walk of the reference's Ends. -/
import Derived.Test.YteijekhmgedhoaaDoorGearA
namespace Go.Proofs.YteijekhmgedhoaaDoor
open Go.RowKit

def hstep (h c : Nat) : Nat := (h * 2 + gearN c) % two64
def hashFrom : Nat → List UInt8 → Nat
  | h, [] => h
  | h, c :: l => hashFrom (hstep h c.toNat) l
def hashN (l : List UInt8) : Nat := hashFrom 0 l
theorem hstep_lt (h c : Nat) : hstep h c < two64 := Nat.mod_lt _ two64_pos
theorem hash_append : ∀ (l r : List UInt8) (h : Nat), hashFrom h (l ++ r) = hashFrom (hashFrom h l) r
  | [], r, h => by simp only [List.nil_append, hashFrom]
  | c :: l, r, h => by simp only [List.cons_append, hashFrom]; exact hash_append l r _
theorem hash_snoc (l : List UInt8) (c : UInt8) : hashN (l ++ [c]) = hstep (hashN l) c.toNat := by unfold hashN; rw [hash_append]; simp only [hashFrom]
theorem hash_lt (l : List UInt8) : hashN l < two64 := by
  rcases List.eq_nil_or_concat l with rfl | ⟨r, c, rfl⟩
  · exact two64_pos
  · rw [List.concat_eq_append, hash_snoc]; exact hstep_lt _ _
theorem mod_aid (a b p m : Nat) : ((a + b) % m * p) % m = (a * p % m + b % m * p) % m := by
  have h1 : (b % m * p) % m = b * p % m := by rw [Nat.mul_mod, Nat.mod_mod, ← Nat.mul_mod]
  have h2 : ((a + b) % m * p) % m = (a * p + b * p) % m := by rw [Nat.mul_mod, Nat.mod_mod, ← Nat.mul_mod, Nat.add_mul]
  rw [h2, Nat.add_mod (a * p) (b * p), Nat.add_mod (a * p % m) (b % m * p), Nat.mod_mod, h1]
theorem hash_from : ∀ (l : List UInt8) (h : Nat), hashFrom h l % two64 = (h * 2 ^ l.length + hashN l) % two64
  | [], h => by simp [hashN, hashFrom]
  | c :: l, h => by
    have e : hashN (c :: l) % two64 = (hstep 0 c.toNat * 2 ^ l.length + hashN l) % two64 := by
      have := hash_from l (hstep 0 c.toNat)
      unfold hashN
      simp only [hashFrom]
      exact this
    simp only [hashFrom]
    rw [hash_from l, List.length_cons]
    have h0 : hstep 0 c.toNat = gearN c.toNat % two64 := by unfold hstep; rw [Nat.zero_mul, Nat.zero_add]
    have h1 : hstep h c.toNat * 2 ^ l.length % two64 = (h * 2 ^ (l.length + 1) % two64 + hstep 0 c.toNat * 2 ^ l.length) % two64 := by
      rw [h0]
      unfold hstep
      rw [mod_aid, Nat.pow_succ, Nat.mul_comm (2 ^ l.length) 2, ← Nat.mul_assoc]
    have h2 : (hstep h c.toNat * 2 ^ l.length + hashN l) % two64 = (h * 2 ^ (l.length + 1) % two64 + hstep 0 c.toNat * 2 ^ l.length + hashN l) % two64 := by
      rw [Nat.add_mod, h1, ← Nat.add_mod]
    rw [h2, Nat.add_assoc, Nat.add_mod (h * 2 ^ (l.length + 1)), e, Nat.add_mod (h * 2 ^ (l.length + 1) % two64), Nat.mod_mod]
theorem hash_last (l : List UInt8) : hashN (l.drop (l.length - 64)) = hashN l := by
  by_cases h : l.length ≤ 64
  · rw [show l.length - 64 = 0 by omega, List.drop_zero]
  · have hl : (l.drop (l.length - 64)).length = 64 := by rw [List.length_drop]; omega
    have e : hashN l = hashFrom (hashN (l.take (l.length - 64))) (l.drop (l.length - 64)) := by
      conv => lhs; rw [← List.take_append_drop (l.length - 64) l]
      unfold hashN; rw [hash_append]
    have e2 := hash_from (l.drop (l.length - 64)) (hashN (l.take (l.length - 64)))
    rw [← e, hl, Nat.mod_eq_of_lt (hash_lt l)] at e2
    rw [e2, show (2 : Nat) ^ 64 = two64 from rfl, Nat.mul_comm, Nat.mul_add_mod, Nat.mod_eq_of_lt (hash_lt _)]
/-- Do the highest bits say that a chunk ends? -/
def endsN (l : List UInt8) (bits : Nat) : Bool := decide (bits = 0 ∨ hashN l / 2 ^ (64 - bits) = 0)
theorem hstep_wrap (h c : Nat) : IntKind.u64.wrap (IntKind.u64.wrap ((h : Int) * 2) + (gearN c : Int)) = ((hstep h c : Nat) : Int) := by
  rw [IntKind.wrap_u64, IntKind.wrap_u64]; unfold hstep two64; omega
end Go.Proofs.YteijekhmgedhoaaDoor
