/- The walk of chunk. -/
import Derived.Test.YteijekhmgedhoaaDoorGearE
namespace Go.Proofs.YteijekhmgedhoaaDoor
open Go.RowKit

theorem nextFrom_eq (P : Nat → Bool) : ∀ (f n m : Nat), n ≤ m → m ≤ n + f → (∀ j, n ≤ j → j < m → P j = false) → (P m = true ∨ m = n + f) → nextFrom P n f = m
  | 0, n, m, h1, h2, _, _ => by simp only [nextFrom]; omega
  | f + 1, n, m, h1, h2, h3, h4 => by
    simp only [nextFrom]
    by_cases he : n = m
    · subst he
      rcases h4 with h4 | h4
      · rw [if_pos h4]
      · omega
    · rw [if_neg (by rw [h3 n (Nat.le_refl _) (by omega)]; decide)]
      exact nextFrom_eq P f (n + 1) m (by omega) (by omega) (fun j a b => h3 j (by omega) b) (by rcases h4 with h4 | h4; exact Or.inl h4; exact Or.inr (by omega))
/-- A chunk ends by its content. -/
def byC (least bits : Nat) (l : List UInt8) (n : Nat) : Bool := decide (least ≤ n) && endsN (l.take n) bits
def noEnd (least bits : Nat) (l : List UInt8) (k : Nat) : Prop := ∀ j, 1 ≤ j → j ≤ k → byC least bits l j = false
theorem endAt_by {least most bits : Nat} {l : List UInt8} {j : Nat} (h : j < most) (h2 : byC least bits l j = false) : endAt least most bits l j = false := by
  unfold endAt
  unfold byC at h2
  rw [h2, decide_eq_false (by omega)]; rfl
theorem next_end {least most bits : Nat} {l : List UInt8} {k : Nat} (hl : k + 1 ≤ l.length) (hm : k + 1 ≤ most) (hn : noEnd least bits l k) (h : byC least bits l (k + 1) = true) : nextLen least most bits l = k + 1 := by
  refine nextFrom_eq _ _ _ _ (by omega) (by omega) (fun j a b => endAt_by (by omega) (hn j a (by omega))) (Or.inl ?_)
  unfold endAt
  unfold byC at h
  rw [h, Bool.or_true]
theorem next_most {least most bits : Nat} {l : List UInt8} {k : Nat} (hk : k = min l.length most) (h1 : 1 ≤ k) (hn : noEnd least bits l k) : nextLen least most bits l = k := by
  refine nextFrom_eq _ _ _ _ (by omega) (by omega) (fun j a b => endAt_by (by omega) (hn j a (by omega))) ?_
  by_cases h : k = most
  · refine Or.inl ?_
    unfold endAt
    rw [h, decide_eq_true rfl]; rfl
  · exact Or.inr (by omega)
theorem hstep_wrap2 (h c : Nat) : IntKind.u64.wrap (IntKind.u64.wrap (2 * (h : Int)) + (gearN c : Int)) = ((hstep h c : Nat) : Int) := by
  rw [IntKind.wrap_u64, IntKind.wrap_u64]; unfold hstep two64; omega
theorem shr_nat (z n : Nat) : ((z : Int) / 2 ^ n) = ((z / 2 ^ n : Nat) : Int) := by simp
theorem gbv_at {l : List UInt8} {j : Nat} (h : j < l.length) : (bv l)[j]? = some (.int .u8 (l[j]).toNat) := by unfold bv; rw [List.getElem?_map, List.getElem?_eq_getElem h]; rfl
theorem hash_take {l : List UInt8} {k : Nat} (h : k < l.length) : hashN (l.take (k + 1)) = hstep (hashN (l.take k)) (l[k]).toNat := by
  rw [List.take_succ_eq_append_getElem h, hash_snoc]
theorem endsN_shr (l : List UInt8) (bits : Nat) : endsN l bits = decide (hashN l / 2 ^ (64 - bits) = 0) := by
  unfold endsN
  by_cases h : bits = 0
  · subst h
    have := hash_lt l
    rw [decide_eq_true (Or.inl rfl), decide_eq_true (Nat.div_eq_of_lt (by unfold two64 at this; omega))]
  · simp [h]
theorem byC_of {least bits : Nat} {l : List UInt8} {k : Nat} : byC least bits l (k + 1) = (decide (least ≤ k + 1) && decide (hashN (l.take (k + 1)) / 2 ^ (64 - bits) = 0)) := by unfold byC; rw [endsN_shr]
theorem noEnd_on {least bits : Nat} {l : List UInt8} {k : Nat} (h : noEnd least bits l k) (h2 : byC least bits l (k + 1) = false) : noEnd least bits l (k + 1) := by
  intro j a b
  by_cases hj : j = k + 1
  · rw [hj]; exact h2
  · exact h j a (by omega)
set_option maxRecDepth 100000 in
set_option maxHeartbeats 1000000 in
theorem chunk_any (S : Nat → Prop) (v : Value) (l : List UInt8) (least most bits : Nat) (w : World) (hS : ∀ k, S k → k < w.heap.size) (h : BytesC S w v l) (hl : l.length ≤ 4194304) (hne : l ≠ []) (hm1 : 1 ≤ most) (hm : most ≤ 1048576) (_hls : least ≤ 1048576) (hb : bits ≤ 20) :
    Calls Tryd.prog 81 #[par least most bits, v] w fun e w' => e = .returned (.int .i64 ((nextLen least most bits l : Nat) : Int)) ∧ Below w.heap.size w w' := by
  have hlp : 0 < l.length := List.length_pos_iff.2 hne
  have HBel : Hid (Below w.heap.size w (w.alloc (.cells #[.int .i64 least, .int .i64 most, .int .i64 bits] 49))) := Lib.hid ((Below.refl _ _).alloc (Nat.le_refl _) _)
  have H := Lib.hid (h.alloc hS (.cells #[.int .i64 least, .int .i64 most, .int .i64 bits] 49))
  obtain ⟨a, ca, rfl⟩ := h.shape
  obtain ⟨c, hc⟩ : ∃ c : Nat, c = 64 - bits := ⟨_, rfl⟩
  have hcb : (64 - (bits : Int)) = (c : Int) := by omega
  have HC := Lib.hid hc
  have HNE := Lib.hid (fun (k : Nat) => @next_end least most bits l k)
  have HNM := Lib.hid (fun (k : Nat) => @next_most least most bits l k)
  clear h hc hne
  go_enter Tryd.func81, Tryd.ntmps81
  go_wp2_with fail
  all_goals
    go_loopw [6, 14] (fun h i wr => ∃ k : Nat, k ≤ l.length ∧ k ≤ most ∧ i = .int .i64 k ∧ h = .int .u64 ((hashN (l.take k) : Nat) : Int) ∧ noEnd least bits l k ∧ wr = w.alloc (.cells #[.int .i64 least, .int .i64 most, .int .i64 bits] 49)) (fun _ i _ => l.length - (intOf i).toNat)
    case atStart => exact ⟨0, by omega, by omega, rfl, rfl, fun j a b => by omega, rfl⟩
    case round =>
      obtain ⟨k, hk, hkm, rfl, rfl, hno, rfl⟩ := hrel
      have HNO := Lib.hid hno
      clear hno
      by_cases hlt : k < l.length ∧ k < most
      · obtain ⟨hlt1, hlt2⟩ := hlt
        have hst := hstep_wrap2 (hashN (l.take k)) (l[k]).toNat
        have HHT := Lib.hid (hash_take hlt1)
        rw [← HHT.out] at hst
        have HBY := Lib.hid (@byC_of least bits l k)
        have HG := Lib.hid (fun w => gear_any (l[k]).toNat w (l[k]).toNat_lt)
        rcases H.out with ⟨_, hx⟩ | ⟨aa, ca', h1, _, _, _, hca⟩
        · rw [hx] at hlt1; simp at hlt1
        injection h1 with e1 _ e1c
        subst e1 e1c
        have d1 := hca k _ (gbv_at hlt1)
        have hc8 := (l[k]).toNat_lt
        clear hca
        have HHT2 : Hid (hashN (l.take (k + 1)) = hashN (l.take (k + 1))) := Lib.hid rfl
        generalize hx1 : hashN (l.take k) = h1 at *
        generalize hx2 : hashN (l.take (k + 1)) = h2 at *
        have HX2 := Lib.hid hx2
        clear hx1 hx2
        generalize (l[k]).toNat = x at *
        have hsh := shr_nat h2 c
        rw [← HC.out] at HBY
        have HSH := Lib.hid hsh
        generalize h2 / 2 ^ c = q at *
        have hsh := HSH.out
        clear HHT2
        by_cases hls1 : least ≤ k + 1
        · have g1 : decide ((least : Int) ≤ (k : Int) + 1) = true := by simp; omega
          by_cases hq : q = 0
          · have g2 : (((q : Nat) : Int) == 0) = true := by rw [beq_iff_eq]; omega
            have HR : Hid (nextLen least most bits l = k + 1) := Lib.hid (HNE.out k (by omega) (by omega) HNO.out (by rw [HBY.out]; simp [hls1, hq]))
            clear hls1 hq
            go_wp2_with fail
            refine (HG.out _).mono ?_
            rintro e w' ⟨rfl, rfl⟩
            go_wp2_with fail
            go_ret
            exact ⟨by rw [HR.out]; rfl, HBel.out⟩
          · have g2 : (((q : Nat) : Int) == 0) = false := by rw [beq_eq_false_iff_ne]; omega
            have HR := Lib.hid (noEnd_on HNO.out (by rw [HBY.out]; simp [hq]))
            clear hls1 hq
            go_wp2_with fail
            refine (HG.out _).mono ?_
            rintro e w' ⟨rfl, rfl⟩
            go_wp2_with fail
            go_roundw
            case rel => exact ⟨k + 1, by omega, by omega, by go_num, by rw [HX2.out], HR.out, by first | rfl | trivial⟩
            case measure => simp [intOf]; omega
        · have g1 : decide ((least : Int) ≤ (k : Int) + 1) = false := by simp; omega
          have HR := Lib.hid (noEnd_on HNO.out (by rw [HBY.out]; simp [hls1]))
          clear hls1
          go_wp2_with fail
          refine (HG.out _).mono ?_
          rintro e w' ⟨rfl, rfl⟩
          go_wp2_with fail
          go_roundw
          case rel => exact ⟨k + 1, by omega, by omega, by go_num, by rw [HX2.out], HR.out, by first | rfl | trivial⟩
          case measure => simp [intOf]; omega
      · have HR := Lib.hid (HNM.out k (by omega) (by omega) HNO.out)
        first
          | (have hd : ¬ k < most := by omega
             have hk2 : k = most := by omega
             clear hlt
             have HK2 := Lib.hid hk2
             clear hk2
             go_wp2_with fail
             go_ret
             exact ⟨by rw [HR.out, HK2.out]; rfl, HBel.out⟩)
          | (have hd : ¬ k < l.length := by omega
             have hk2 : k = l.length := by omega
             clear hlt
             have HK2 := Lib.hid hk2
             clear hk2
             go_wp2_with fail
             go_ret
             exact ⟨by rw [HR.out, HK2.out]; rfl, HBel.out⟩)
end Go.Proofs.YteijekhmgedhoaaDoor
