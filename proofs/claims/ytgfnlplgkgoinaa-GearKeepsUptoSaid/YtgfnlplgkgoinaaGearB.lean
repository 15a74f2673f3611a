/- A chunk's hash, where it ends, its length; the walk of the reference's Ends. -/
import Derived.Test.YtgfnlplgkgoinaaGearA
namespace Go.Proofs.Ytgfnlplgkgoinaa
open Go.RowKit

def hstep (h c : Nat) : Nat := (h * 2 + gearN c) % two64
def hashFrom : Nat → List UInt8 → Nat
  | h, [] => h
  | h, c :: l => hashFrom (hstep h c.toNat) l
def hashN (l : List UInt8) : Nat := hashFrom 0 l
theorem hstep_lt (h c : Nat) : hstep h c < two64 := Nat.mod_lt _ two64_pos
theorem hash_append : ∀ (l r : List UInt8) (h : Nat), hashFrom h (l ++ r) = hashFrom (hashFrom h l) r
  | [], r, h => by simp only [List.nil_append, hashFrom]
  | c :: l, r, h => by simp only [List.cons_append, hashFrom]; exact hash_append l r _
theorem hash_snoc (l : List UInt8) (c : UInt8) : hashN (l ++ [c]) = hstep (hashN l) c.toNat := by unfold hashN; rw [hash_append]; simp only [hashFrom]
theorem hash_lt (l : List UInt8) : hashN l < two64 := by
  rcases List.eq_nil_or_concat l with rfl | ⟨r, c, rfl⟩
  · exact two64_pos
  · rw [List.concat_eq_append, hash_snoc]; exact hstep_lt _ _
theorem mod_aid (a b p m : Nat) : ((a + b) % m * p) % m = (a * p % m + b % m * p) % m := by
  have h1 : (b % m * p) % m = b * p % m := by rw [Nat.mul_mod, Nat.mod_mod, ← Nat.mul_mod]
  have h2 : ((a + b) % m * p) % m = (a * p + b * p) % m := by rw [Nat.mul_mod, Nat.mod_mod, ← Nat.mul_mod, Nat.add_mul]
  rw [h2, Nat.add_mod (a * p) (b * p), Nat.add_mod (a * p % m) (b % m * p), Nat.mod_mod, h1]
theorem hash_from : ∀ (l : List UInt8) (h : Nat), hashFrom h l % two64 = (h * 2 ^ l.length + hashN l) % two64
  | [], h => by simp [hashN, hashFrom]
  | c :: l, h => by
    have e : hashN (c :: l) % two64 = (hstep 0 c.toNat * 2 ^ l.length + hashN l) % two64 := by
      have := hash_from l (hstep 0 c.toNat)
      unfold hashN
      simp only [hashFrom]
      exact this
    simp only [hashFrom]
    rw [hash_from l, List.length_cons]
    have h0 : hstep 0 c.toNat = gearN c.toNat % two64 := by unfold hstep; rw [Nat.zero_mul, Nat.zero_add]
    have h1 : hstep h c.toNat * 2 ^ l.length % two64 = (h * 2 ^ (l.length + 1) % two64 + hstep 0 c.toNat * 2 ^ l.length) % two64 := by
      rw [h0]
      unfold hstep
      rw [mod_aid, Nat.pow_succ, Nat.mul_comm (2 ^ l.length) 2, ← Nat.mul_assoc]
    have h2 : (hstep h c.toNat * 2 ^ l.length + hashN l) % two64 = (h * 2 ^ (l.length + 1) % two64 + hstep 0 c.toNat * 2 ^ l.length + hashN l) % two64 := by
      rw [Nat.add_mod, h1, ← Nat.add_mod]
    rw [h2, Nat.add_assoc, Nat.add_mod (h * 2 ^ (l.length + 1)), e, Nat.add_mod (h * 2 ^ (l.length + 1) % two64), Nat.mod_mod]
theorem hash_last (l : List UInt8) : hashN (l.drop (l.length - 64)) = hashN l := by
  by_cases h : l.length ≤ 64
  · rw [show l.length - 64 = 0 by omega, List.drop_zero]
  · have hl : (l.drop (l.length - 64)).length = 64 := by rw [List.length_drop]; omega
    have e : hashN l = hashFrom (hashN (l.take (l.length - 64))) (l.drop (l.length - 64)) := by
      conv => lhs; rw [← List.take_append_drop (l.length - 64) l]
      unfold hashN; rw [hash_append]
    have e2 := hash_from (l.drop (l.length - 64)) (hashN (l.take (l.length - 64)))
    rw [← e, hl, Nat.mod_eq_of_lt (hash_lt l)] at e2
    rw [e2, show (2 : Nat) ^ 64 = two64 from rfl, Nat.mul_comm, Nat.mul_add_mod, Nat.mod_eq_of_lt (hash_lt _)]
/-- Do the highest bits say that a chunk ends? -/
def endsN (l : List UInt8) (bits : Nat) : Bool := decide (bits = 0 ∨ hashN l / 2 ^ (64 - bits) = 0)
theorem hstep_wrap (h c : Nat) : IntKind.u64.wrap (IntKind.u64.wrap ((h : Int) * 2) + (gearN c : Int)) = ((hstep h c : Nat) : Int) := by
  rw [IntKind.wrap_u64, IntKind.wrap_u64]; unfold hstep two64; omega
set_option maxRecDepth 100000 in
set_option maxHeartbeats 1000000 in
theorem rends_any (s : List UInt8) (b : Nat) (w : World) (hs : s.length ≤ 4194304) (hb : b ≤ 20) : Calls Try.prog 23 #[.string ⟨s.toArray⟩, .int .i64 b] w fun e w' => e = .returned (.bool (endsN s b)) ∧ w = w' := by
  obtain ⟨fr, hfr, hfl⟩ : ∃ fr, fr = s.length - 64 ∧ fr ≤ s.length := ⟨_, rfl, by omega⟩
  have HH := Lib.hid (hash_last s)
  have HFR := Lib.hid hfr
  have hrel0 : Hid (∀ k, k ≤ s.length → fr ≤ k → k < s.length → hashN ((s.drop fr).take (k + 1 - fr)) = hstep (hashN ((s.drop fr).take (k - fr))) (s[k]!).toNat) := Lib.hid (fun k _ h1 h2 => by
    rw [show k + 1 - fr = (k - fr) + 1 by omega, List.take_succ_eq_append_getElem (by rw [List.length_drop]; omega), hash_snoc]
    congr 2
    rw [List.getElem_drop, getElem!_pos s k h2]
    congr 1; omega)
  clear hfr
  by_cases h64 : 64 < s.length
  · have hd1 : decide ((64 : Int) < (s.length : Int)) = true := by simp; omega
    have hd2 : decide (64 < s.length) = true := by simp; omega
    have HF0 : Hid ((fr : Int) = fr) := Lib.hid rfl
    have hf : (s.length : Int) - 64 = (fr : Int) := by have := HFR.out; omega
    have HF := Lib.hid hf
    clear hf
    go_enter Try.func23, Try.ntmps23
    go_wp2_with fail
    rw [HF.out]
    go_loop [5, 7] (fun h i => ∃ k : Nat, fr ≤ k ∧ k ≤ s.length ∧ i = .int .i64 k ∧ h = .int .u64 ((hashN ((s.drop fr).take (k - fr)) : Nat) : Int)) (fun _ i => s.length - (intOf i).toNat)
    case atStart => exact ⟨fr, Nat.le_refl _, hfl, congrArg (Value.int .i64) (by have := HF0.out; omega), by rw [Nat.sub_self]; rfl⟩
    case round =>
      obtain ⟨k, hfk, hk, rfl, rfl⟩ := hrel
      by_cases hlt : k < s.length
      · have hst := hrel0.out k hk hfk hlt
        have hidx := idx_eq s k hlt
        have hgb : s[k]! = s[k] := getElem!_pos s k hlt
        rw [hgb, ← hidx] at hst
        have HST := Lib.hid hst
        have hc := ((⟨s.toArray⟩ : ByteArray)[k]'(idx_lt hlt)).toNat_lt
        have HG := Lib.hid (fun w => rgear_any ((⟨s.toArray⟩ : ByteArray)[k]'(idx_lt hlt)).toNat w hc)
        have hw := hstep_wrap (hashN ((s.drop fr).take (k - fr))) ((⟨s.toArray⟩ : ByteArray)[k]'(idx_lt hlt)).toNat
        rw [← HST.out] at hw
        generalize hashN ((s.drop fr).take (k - fr)) = h1 at *
        generalize hh2 : hashN ((s.drop fr).take (k + 1 - fr)) = h2 at *
        have HH2 := Lib.hid hh2
        clear hh2
        clear hst hidx hgb
        go_wp2_with fail
        refine (HG.out _).mono ?_
        rintro e w' ⟨rfl, rfl⟩
        go_wp2_with fail
        go_round
        case rel => exact ⟨k + 1, by omega, by omega, by go_num, by rw [HH2.out]⟩
        case measure => simp [intOf]; omega
      · have hks : k = s.length := by omega
        subst hks
        have ht : (s.drop fr).take (s.length - fr) = s.drop fr := List.take_of_length_le (by rw [List.length_drop]; exact Nat.le_refl _)
        have hh := HH.out
        rw [← HFR.out] at hh
        rw [ht, hh]
        have HL := Lib.hid (hash_lt s)
        have HE : Hid (endsN s b = decide (b = 0 ∨ hashN s / 2 ^ (64 - b) = 0)) := Lib.hid rfl
        clear ht hh
        generalize hashN s = hs1 at *
        by_cases hb0 : b = 0
        · have hen : endsN s b = true := by rw [HE.out]; simp [hb0]
          have HEN := Lib.hid hen
          have hb0t : ((b : Int) == 0) = true := by rw [beq_iff_eq]; omega
          clear HE hb0 hen
          go_wp2_with fail
          go_ret
          exact ⟨by rw [HEN.out]; rfl, rfl⟩
        · have hb0f : ((b : Int) == 0) = false := by rw [beq_eq_false_iff_ne]; omega
          have HD := Lib.hid (fun w => down_any hs1 (64 - b) w HL.out (by omega))
          have hen := HE.out
          have hen : endsN s b = decide (hs1 / 2 ^ (64 - b) = 0) := by rw [hen]; simp [hb0]
          generalize hs1 / 2 ^ (64 - b) = dv at *
          have HEN := Lib.hid hen
          clear hen HE
          go_wp2_with fail
          rw [show (64 : Int) - (b : Int) = ((64 - b : Nat) : Int) by omega]
          refine (HD.out _).mono ?_
          rintro e w' ⟨rfl, rfl⟩
          by_cases hdv : dv = 0
          · have hdt : ((dv : Int) == 0) = true := by rw [beq_iff_eq]; omega
            have hen := HEN.out
            rw [decide_eq_true hdv] at hen
            have HEN2 := Lib.hid hen
            have hdt2 : decide (dv = 0) = true := decide_eq_true hdv
            clear HEN hdv hen
            go_wp2_with fail
            go_ret
            exact ⟨by rw [HEN2.out]; rfl, rfl⟩
          · have hdt : ((dv : Int) == 0) = false := by rw [beq_eq_false_iff_ne]; omega
            have hen := HEN.out
            rw [decide_eq_false hdv] at hen
            have HEN2 := Lib.hid hen
            have hdt2 : decide (dv = 0) = false := decide_eq_false hdv
            clear HEN hdv hen
            go_wp2_with fail
            go_ret
            exact ⟨by rw [HEN2.out]; rfl, rfl⟩
  · have hd1 : decide ((64 : Int) < (s.length : Int)) = false := by simp; omega
    have hd2 : decide (64 < s.length) = false := by simp; omega
    have HF0 : Hid (fr = 0) := Lib.hid (by have := HFR.out; omega)
    go_enter Try.func23, Try.ntmps23
    go_wp2_with fail
    go_loop [5, 7] (fun h i => ∃ k : Nat, fr ≤ k ∧ k ≤ s.length ∧ i = .int .i64 k ∧ h = .int .u64 ((hashN ((s.drop fr).take (k - fr)) : Nat) : Int)) (fun _ i => s.length - (intOf i).toNat)
    case atStart => exact ⟨fr, Nat.le_refl _, hfl, congrArg (Value.int .i64) (by have := HF0.out; omega), by rw [Nat.sub_self]; rfl⟩
    case round =>
      obtain ⟨k, hfk, hk, rfl, rfl⟩ := hrel
      by_cases hlt : k < s.length
      · have hst := hrel0.out k hk hfk hlt
        have hidx := idx_eq s k hlt
        have hgb : s[k]! = s[k] := getElem!_pos s k hlt
        rw [hgb, ← hidx] at hst
        have HST := Lib.hid hst
        have hc := ((⟨s.toArray⟩ : ByteArray)[k]'(idx_lt hlt)).toNat_lt
        have HG := Lib.hid (fun w => rgear_any ((⟨s.toArray⟩ : ByteArray)[k]'(idx_lt hlt)).toNat w hc)
        have hw := hstep_wrap (hashN ((s.drop fr).take (k - fr))) ((⟨s.toArray⟩ : ByteArray)[k]'(idx_lt hlt)).toNat
        rw [← HST.out] at hw
        generalize hashN ((s.drop fr).take (k - fr)) = h1 at *
        generalize hh2 : hashN ((s.drop fr).take (k + 1 - fr)) = h2 at *
        have HH2 := Lib.hid hh2
        clear hh2
        clear hst hidx hgb
        go_wp2_with fail
        refine (HG.out _).mono ?_
        rintro e w' ⟨rfl, rfl⟩
        go_wp2_with fail
        go_round
        case rel => exact ⟨k + 1, by omega, by omega, by go_num, by rw [HH2.out]⟩
        case measure => simp [intOf]; omega
      · have hks : k = s.length := by omega
        subst hks
        have ht : (s.drop fr).take (s.length - fr) = s.drop fr := List.take_of_length_le (by rw [List.length_drop]; exact Nat.le_refl _)
        have hh := HH.out
        rw [← HFR.out] at hh
        rw [ht, hh]
        have HL := Lib.hid (hash_lt s)
        have HE : Hid (endsN s b = decide (b = 0 ∨ hashN s / 2 ^ (64 - b) = 0)) := Lib.hid rfl
        clear ht hh
        generalize hashN s = hs1 at *
        by_cases hb0 : b = 0
        · have hen : endsN s b = true := by rw [HE.out]; simp [hb0]
          have HEN := Lib.hid hen
          have hb0t : ((b : Int) == 0) = true := by rw [beq_iff_eq]; omega
          clear HE hb0 hen
          go_wp2_with fail
          go_ret
          exact ⟨by rw [HEN.out]; rfl, rfl⟩
        · have hb0f : ((b : Int) == 0) = false := by rw [beq_eq_false_iff_ne]; omega
          have HD := Lib.hid (fun w => down_any hs1 (64 - b) w HL.out (by omega))
          have hen := HE.out
          have hen : endsN s b = decide (hs1 / 2 ^ (64 - b) = 0) := by rw [hen]; simp [hb0]
          generalize hs1 / 2 ^ (64 - b) = dv at *
          have HEN := Lib.hid hen
          clear hen HE
          go_wp2_with fail
          rw [show (64 : Int) - (b : Int) = ((64 - b : Nat) : Int) by omega]
          refine (HD.out _).mono ?_
          rintro e w' ⟨rfl, rfl⟩
          by_cases hdv : dv = 0
          · have hdt : ((dv : Int) == 0) = true := by rw [beq_iff_eq]; omega
            have hen := HEN.out
            rw [decide_eq_true hdv] at hen
            have HEN2 := Lib.hid hen
            have hdt2 : decide (dv = 0) = true := decide_eq_true hdv
            clear HEN hdv hen
            go_wp2_with fail
            go_ret
            exact ⟨by rw [HEN2.out]; rfl, rfl⟩
          · have hdt : ((dv : Int) == 0) = false := by rw [beq_eq_false_iff_ne]; omega
            have hen := HEN.out
            rw [decide_eq_false hdv] at hen
            have HEN2 := Lib.hid hen
            have hdt2 : decide (dv = 0) = false := decide_eq_false hdv
            clear HEN hdv hen
            go_wp2_with fail
            go_ret
            exact ⟨by rw [HEN2.out]; rfl, rfl⟩
end Go.Proofs.Ytgfnlplgkgoinaa
