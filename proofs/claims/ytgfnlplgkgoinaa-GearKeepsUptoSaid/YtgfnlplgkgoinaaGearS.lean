/- The walk of the law GearAgain. -/
import Derived.Test.YtgfnlplgkgoinaaGearR
import Derived.Test.YtgfnlplgkgoinaaGearQ
namespace Go.Proofs.Ytgfnlplgkgoinaa
open Go.RowKit
attribute [local go_sem ↓] Go.wp_at_zero Go.wp_at_succ

theorem again_pure (least most bits : Nat) (t rest : List UInt8) (ht : t ≠ []) : ∀ (n : Nat) (l : List UInt8), l.length ≤ n → (cutL least most bits (l ++ t)).take (cutL least most bits l).length = cutL least most bits l → cutL least most bits (l ++ rest) = cutL least most bits l ++ cutL least most bits rest
  | 0, l, h, _ => by
    obtain rfl : l = [] := List.length_eq_zero_iff.1 (by omega)
    rw [cutL_nil]; rfl
  | n + 1, l, h, hk => by
    by_cases hl : l = []
    · subst hl; rw [cutL_nil]; rfl
    · have h1 := nextLen_pos least most bits l
      have h2 := nextLen_le least most bits l hl
      have hlt : l ++ t ≠ [] := by simp [hl]
      have hlr : l ++ rest ≠ [] := by simp [hl]
      have htp : 0 < t.length := List.length_pos_iff.2 ht
      have e1 := cutL_cons (least := least) (most := most) (bits := bits) hl
      have e2 := cutL_cons (least := least) (most := most) (bits := bits) hlt
      rw [e1, e2, List.length_cons, List.take_succ_cons] at hk
      injection hk with k1 k2
      rw [k1] at k2
      have hn : nextLen least most bits (l ++ rest) = nextLen least most bits l := by
        by_cases hlast : nextLen least most bits l < l.length
        · refine next_same rfl hl hlast (by rw [List.length_append]; omega) ?_
          rw [List.take_append_of_le_length h2]
        · have e : nextLen least most bits l = l.length := by omega
          refine next_same (r := l ++ t) k1 hlt (by rw [List.length_append]; omega) (by rw [List.length_append]; omega) ?_
          rw [e, List.take_left, List.take_left]
      rw [cutL_cons hlr, hn, e1, List.drop_append_of_le_length h2]
      rw [List.drop_append_of_le_length h2] at k2
      rw [again_pure least most bits t rest ht n (l.drop (nextLen least most bits l)) (by rw [List.length_drop]; omega) k2]
      rfl
theorem again_of {least most bits : Nat} {l rest : List UInt8} (h : wholeB least most bits l (cutL least most bits l) = true) : cutL least most bits (l ++ rest) = cutL least most bits l ++ cutL least most bits rest := by
  unfold wholeB at h
  rcases Bool.or_eq_true _ _ ▸ h with h1 | h1
  · have h2 := of_decide_eq_true h1
    by_cases hl : l = []
    · subst hl; rw [cutL_nil]; rfl
    · rw [cutL_cons hl] at h2; cases h2
  · rw [Bool.and_eq_true] at h1
    exact again_pure least most bits d8 rest (by simp [d8]) _ l (Nat.le_refl _) (of_decide_eq_true h1.2)
theorem two_c {S : Nat → Prop} {w : World} {va vb : Value} {la lb : List UInt8} (hS : ∀ k, S k → k < w.heap.size) (ha : BytesC S w va la) (hb : BytesC S w vb lb) :
    ChunksC (fun k => k < w.heap.size + 1) (w.alloc (.cells #[va, vb] 22)) (.slice (some ⟨w.heap.size, 0, none⟩) 2 2) [la, lb] := by
  refine Or.inr ⟨⟨w.heap.size, 0, none⟩, 2, rfl, Nat.le_refl _, by unfold maxLen; omega, Or.inr (Nat.lt_succ_self _), fun j l hj => ?_⟩
  have e : (⟨w.heap.size, 0, none⟩ : Addr).add j = ⟨w.heap.size, j, none⟩ := by simp [Addr.add]; omega
  rw [e]
  unfold World.cell?
  rw [new_five]
  have kk : ∀ k, S k → k < w.heap.size + 1 ∧ (w.alloc (.cells #[va, vb] 22)).heap[k]? = w.heap[k]? := fun k hk => ⟨by have := hS k hk; omega, Below.heap_alloc _ _ _ (hS k hk)⟩
  match j, hj with
  | 0, hj => injection hj with hj; subst hj; exact ⟨va, rfl, ha.kept kk⟩
  | 1, hj => injection hj with hj; subst hj; exact ⟨vb, rfl, hb.kept kk⟩
  | j + 2, hj => simp at hj
theorem own_emptyI (w : World) : OwnI (w.alloc (.cells #[] 3)) w.heap.size (.slice (some ⟨w.heap.size, 0, none⟩) 0 0) [] := by
  refine ⟨rfl, Or.inr ⟨w.heap.size, 0, #[], rfl, Nat.le_refl _, ?_, Nat.le_refl _, by unfold maxLen; omega, rfl, rfl⟩⟩
  show (w.heap.push _)[w.heap.size]? = _
  rw [Array.getElem?_push, if_pos rfl]
theorem ownI_more {w2 : World} {B n : Nat} {v : Value} {l r : List Nat} (hn : n = l.length + r.length) (h : w2.ownsRow B 3 1 v n (iv l ++ iv r)) : OwnI w2 B v (l ++ r) := by
  subst hn; unfold OwnI; rw [iv_append, List.length_append]; exact h
theorem below_al (w : World) (o : Obj) : Below w.heap.size w (w.alloc o) := (Below.refl _ w).alloc (Nat.le_refl _) o
theorem kept_tr {w0 w w' : World} (h : Below w0.heap.size w0 w) (h2 : Below w.heap.size w w') : Below w0.heap.size w0 w' := h.trans (h2.mono h.size)
set_option maxRecDepth 100000 in
set_option maxHeartbeats 16000000 in
theorem law_again (va : Value) (la : List UInt8) (vb : Value) (lb : List UInt8) (vr : Value) (lr : List UInt8) (w : World) (hla : la.length ≤ 1048576) (hA : BytesC (fun k => k < w.heap.size) w va la) (hlb : lb.length ≤ 1048576) (hB : BytesC (fun k => k < w.heap.size) w vb lb) (hlr : lr.length ≤ 1048576) (hR : BytesC (fun k => k < w.heap.size) w vr lr) :
    Calls Try.prog 5 #[va, vb, vr] w (True' w) := by
  obtain ⟨i0, hi, hz0, hz1, hz2⟩ := info_parts Try.info3
  have HA := Lib.hid hA
  have HB := Lib.hid hB
  have HR := Lib.hid hR
  obtain ⟨aa, ca, rfl⟩ := hA.shape
  obtain ⟨ab, cb, rfl⟩ := hB.shape
  obtain ⟨ar, cr, rfl⟩ := hR.shape
  have HCA := Lib.hid (cut_count 4 64 3 _ la (Nat.le_refl _))
  have HCB := Lib.hid (cut_count 4 64 3 _ lb (Nat.le_refl _))
  have HCR := Lib.hid (cut_count 4 64 3 _ lr (Nat.le_refl _))
  clear hA hB hR
  go_enter Try.func5, Try.ntmps5
  go_wp2_with fail
  refine (awake_any _).mono ?_
  rintro e w1 ⟨rfl, hb1⟩
  have hs1 := hb1.size
  have HB1 := Lib.hid hb1
  clear hb1
  go_upto_region 4 with fail
  have hb2 := HB1.out.alloc hs1 (.cells #[.int .i64 4, .int .i64 64, .int .i64 3] 24)
  have hn2 := new_five w1 #[.int .i64 4, .int .i64 64, .int .i64 3] 24
  have hs2 : w1.heap.size < (w1.alloc (.cells #[.int .i64 4, .int .i64 64, .int .i64 3] 24)).heap.size := by simp
  generalize w1.alloc (.cells #[.int .i64 4, .int .i64 64, .int .i64 3] 24) = w2 at *
  generalize w1.heap.size = b7 at *
  have HW2 := Lib.hid hb2
  have HN2 := Lib.hid hn2
  have hww := hb2.size
  have HFA : Hid (∀ w', Below w2.heap.size w2 w' → BytesC (fun k => k < w.heap.size) w' (.slice aa la.length ca) la) := Lib.hid (fun w' hb => HA.out.kept (fun k hk => ⟨hk, (hb.block k (by omega)).trans (HW2.out.block k hk)⟩))
  have HFB : Hid (∀ w', Below w2.heap.size w2 w' → BytesC (fun k => k < w.heap.size) w' (.slice ab lb.length cb) lb) := Lib.hid (fun w' hb => HB.out.kept (fun k hk => ⟨hk, (hb.block k (by omega)).trans (HW2.out.block k hk)⟩))
  have HFR : Hid (∀ w', Below w2.heap.size w2 w' → BytesC (fun k => k < w.heap.size) w' (.slice ar lr.length cr) lr) := Lib.hid (fun w' hb => HR.out.kept (fun k hk => ⟨hk, (hb.block k (by omega)).trans (HW2.out.block k hk)⟩))
  have HFN : Hid (∀ w', Below w2.heap.size w2 w' → w'.cell? ⟨b7, 0, none⟩ = some (.int .i64 4) ∧ w'.cell? ⟨b7, 1, none⟩ = some (.int .i64 64) ∧ w'.cell? ⟨b7, 2, none⟩ = some (.int .i64 3)) := Lib.hid (fun w' hb => three_cells ((hb.block b7 hs2).trans HN2.out))
  have HZ : Hid (∀ w', Below w2.heap.size w2 w' → ∀ k, k < w.heap.size → k < w'.heap.size) := Lib.hid (fun w' hb k hk => by have := hb.size; omega)
  have HK2 : Hid (Below w2.heap.size w2 w2) := Lib.hid (Below.refl _ _)
  clear hb2 hn2 hs2 HN2 HA HB HR
  obtain ⟨c0, c1, c2⟩ := HFN.out _ HK2.out
  go_wp2_with fail
  refine (cut_ok _ _ la 4 64 3 w2 (HZ.out _ HK2.out) (HFA.out _ HK2.out) (by omega) rfl).mono ?_
  rintro e w3 ⟨v3, rfl, hO, hb⟩
  have HK3 : Hid (Below w2.heap.size w2 w3) := Lib.hid hb
  have HX : Hid (IntsC (fun k => w2.heap.size ≤ k ∧ k < w3.heap.size) w3 v3 (cutL 4 64 3 la)) := Lib.hid (ownI_c hO)
  obtain ⟨xa, xc, rfl⟩ := ownI_slice hO
  have HFX : Hid (∀ w', Below w3.heap.size w3 w' → IntsC (fun k => w2.heap.size ≤ k ∧ k < w3.heap.size) w' (.slice xa (cutL 4 64 3 la).length xc) (cutL 4 64 3 la)) := Lib.hid (fun w' hb => HX.out.kept (fun k hk => ⟨hk, hb.block k hk.2⟩))
  clear hO hb c0 c1 c2 HX
  obtain ⟨c0, c1, c2⟩ := HFN.out _ HK3.out
  go_wp2_with fail
  refine (cut_ok _ _ lb 4 64 3 w3 (HZ.out _ HK3.out) (HFB.out _ HK3.out) (by omega) rfl).mono ?_
  rintro e w4 ⟨v4, rfl, hO, hb⟩
  have HK4 : Hid (Below w2.heap.size w2 w4) := Lib.hid (kept_tr HK3.out hb)
  have HD4 : Hid (Below w3.heap.size w3 w4) := Lib.hid hb
  have HY : Hid (IntsC (fun k => w3.heap.size ≤ k ∧ k < w4.heap.size) w4 v4 (cutL 4 64 3 lb)) := Lib.hid (ownI_c hO)
  obtain ⟨ya, yc, rfl⟩ := ownI_slice hO
  have HFY : Hid (∀ w', Below w4.heap.size w4 w' → IntsC (fun k => w3.heap.size ≤ k ∧ k < w4.heap.size) w' (.slice ya (cutL 4 64 3 lb).length yc) (cutL 4 64 3 lb)) := Lib.hid (fun w' hb => HY.out.kept (fun k hk => ⟨hk, hb.block k hk.2⟩))
  clear hO hb c0 c1 c2 HY
  obtain ⟨c0, c1, c2⟩ := HFN.out _ HK4.out
  have HWA := Lib.hid (whole_any _ _ _ la _ (cutL 4 64 3 la) 4 64 3 w4 (by omega) (by have := HCA.out; omega) (HZ.out _ HK4.out) (fun k hk => Nat.lt_of_lt_of_le hk.2 HD4.out.size) (HFA.out _ HK4.out) (HFX.out _ HD4.out) rfl)
  have HPA := Lib.hid (fun h => again_of (least := 4) (most := 64) (bits := 3) (l := la) (rest := lr) h)
  have HPB := Lib.hid (fun h => again_of (least := 4) (most := 64) (bits := 3) (l := lb) (rest := lr) h)
  go_wp2_with fail
  refine HWA.out.mono ?_
  cases hwa : wholeB 4 64 3 la (cutL 4 64 3 la) with
  | false =>
    rintro e w5 ⟨rfl, hb⟩
    have HW5 := Lib.hid (HW2.out.trans ((kept_tr HK4.out hb).mono HW2.out.size))
    clear hb c0 c1 c2 hwa
    go_wp2_with fail
    go_ret
    exact ⟨rfl, HW5.out⟩
  | true =>
    rintro e w5 ⟨rfl, hb⟩
    have HEA := Lib.hid (HPA.out hwa)
    have HK5 : Hid (Below w2.heap.size w2 w5) := Lib.hid (kept_tr HK4.out hb)
    have HE5 : Hid (Below w4.heap.size w4 w5) := Lib.hid hb
    have HD5 : Hid (Below w3.heap.size w3 w5) := Lib.hid (kept_tr HD4.out hb)
    clear hb c0 c1 c2 hwa HWA
    obtain ⟨c0, c1, c2⟩ := HFN.out _ HK5.out
    have HWB := Lib.hid (whole_any _ _ _ lb _ (cutL 4 64 3 lb) 4 64 3 w5 (by omega) (by have := HCB.out; omega) (HZ.out _ HK5.out) (fun k hk => Nat.lt_of_lt_of_le hk.2 HE5.out.size) (HFB.out _ HK5.out) (HFY.out _ HE5.out) rfl)
    go_wp2_with fail
    refine HWB.out.mono ?_
    cases hwb : wholeB 4 64 3 lb (cutL 4 64 3 lb) with
    | false =>
      rintro e w6 ⟨rfl, hb⟩
      have HW6 := Lib.hid (HW2.out.trans ((kept_tr HK5.out hb).mono HW2.out.size))
      clear hb c0 c1 c2 hwb
      go_wp2_with fail
      go_ret
      exact ⟨rfl, HW6.out⟩
    | true =>
      rintro e w6 ⟨rfl, hb⟩
      have HEB := Lib.hid (HPB.out hwb)
      have HK6 : Hid (Below w2.heap.size w2 w6) := Lib.hid (kept_tr HK5.out hb)
      have HE6 : Hid (Below w4.heap.size w4 w6) := Lib.hid (kept_tr HE5.out hb)
      have HD6 : Hid (Below w3.heap.size w3 w6) := Lib.hid (kept_tr HD5.out hb)
      clear hb c0 c1 c2 hwb HWB
      obtain ⟨c0, c1, c2⟩ := HFN.out _ HK6.out
      go_wp2_with fail
      refine (cut_ok _ _ lr 4 64 3 w6 (HZ.out _ HK6.out) (HFR.out _ HK6.out) (by omega) rfl).mono ?_
      rintro e w7 ⟨v7, rfl, hO, hb⟩
      have HK7 : Hid (Below w2.heap.size w2 w7) := Lib.hid (kept_tr HK6.out hb)
      have HE7 : Hid (Below w4.heap.size w4 w7) := Lib.hid (kept_tr HE6.out hb)
      have HD7 : Hid (Below w3.heap.size w3 w7) := Lib.hid (kept_tr HD6.out hb)
      have HZZ : Hid (IntsC (fun k => w6.heap.size ≤ k ∧ k < w7.heap.size) w7 v7 (cutL 4 64 3 lr)) := Lib.hid (ownI_c hO)
      obtain ⟨za, zc, rfl⟩ := ownI_slice hO
      have HFZ : Hid (∀ w', Below w7.heap.size w7 w' → IntsC (fun k => w6.heap.size ≤ k ∧ k < w7.heap.size) w' (.slice za (cutL 4 64 3 lr).length zc) (cutL 4 64 3 lr)) := Lib.hid (fun w' hb => HZZ.out.kept (fun k hk => ⟨hk, hb.block k hk.2⟩))
      clear hO hb c0 c1 c2 HZZ
      go_wp2_with fail
      have HFw8 : Hid (∀ w', Below w7.heap.size w7 w' → w'.cell? ⟨b7, 0, none⟩ = some (.int .i64 4) ∧ w'.cell? ⟨b7, 1, none⟩ = some (.int .i64 64) ∧ w'.cell? ⟨b7, 2, none⟩ = some (.int .i64 3) ∧ Hid (Below w7.heap.size w7 w')) := Lib.hid (fun w' hb => by
        obtain ⟨e0, e1, e2⟩ := HFN.out _ (kept_tr HK7.out hb)
        exact ⟨e0, e1, e2, Lib.hid hb⟩)
      obtain ⟨xw8, hx⟩ : ∃ x, x = la ++ lr := ⟨_, rfl⟩
      have hxlw8 : xw8.length ≤ 2097152 := by rw [hx, List.length_append]; omega
      have HXw8 := Lib.hid hx
      clear hx
      obtain ⟨P8, hP⟩ : ∃ x, x = cutL 4 64 3 la ++ cutL 4 64 3 lr := ⟨_, rfl⟩
      have HP8 := Lib.hid hP
      have hpl8 : P8.length ≤ 2097152 := by rw [hP, List.length_append]; have h1 := HCA.out; have h2 := HCR.out; omega
      clear hP
      refine wp_region_held_drew (S := (fun w' => w'.cell? ⟨b7, 0, none⟩ = some (.int .i64 4) ∧ w'.cell? ⟨b7, 1, none⟩ = some (.int .i64 64) ∧ w'.cell? ⟨b7, 2, none⟩ = some (.int .i64 3) ∧ Hid (Below w7.heap.size w7 w'))) (by kernel_rfl) (by exact HFw8.out _ (below_dr w7)) (fun hHeld => ?_)
      have HQd : Hid (Below w7.heap.size w7 w7.drew) := Lib.hid (below_dr w7)
      generalize w7.drew = wdw8 at *
      refine wpAnyH_take (i := 0) (oi := ⟨_, _, _, _, _, _⟩) (v := ?_) rfl (by kernel_rfl) (by kernel_rfl) (by kernel_rfl) (fun _ _ _ h => h) (Or.inl ⟨by rfl, ?_⟩) (by assumption) ?_
      rotate_left
      · intro w hSw; (try dsimp only at hSw); first | (go_simp; done) | (go_simp; with_reducible rfl)
      try simp only [Act.put, List.setIfInBounds_toArray, List.set_cons_zero, List.set_cons_succ]
      refine wpAnyH_take (i := 1) (oi := ⟨_, _, _, _, _, _⟩) (v := ?_) rfl (by kernel_rfl) (by kernel_rfl) (by kernel_rfl) (fun _ _ _ h => h) (Or.inl ⟨by rfl, ?_⟩) (by assumption) ?_
      rotate_left
      · intro w hSw; (try dsimp only at hSw); first | (go_simp; done) | (go_simp; with_reducible rfl)
      try simp only [Act.put, List.setIfInBounds_toArray, List.set_cons_zero, List.set_cons_succ]
      refine wpAnyH_take (i := 4) (oi := ⟨_, _, _, _, _, _⟩) (v := ?_) rfl (by kernel_rfl) (by kernel_rfl) (by kernel_rfl) (fun _ _ _ h => h) (Or.inl ⟨by rfl, ?_⟩) (by assumption) ?_
      rotate_left
      · intro w hSw; (try dsimp only at hSw); first | (go_simp; done) | (go_simp; with_reducible rfl)
      try simp only [Act.put, List.setIfInBounds_toArray, List.set_cons_zero, List.set_cons_succ]
      refine wpAnyH_ready (rs := [2]) (by kernel_rfl) (by simp) ?_
      refine AllReadyH.cons (o := ⟨_, _, _, _, _, _⟩) rfl (fun K hK => ?_) AllReadyH.nil
      go_simp
      refine any_step (fun wA1 hN => ?_)
      have HBwA1 : Hid (Below w7.heap.size w7 wA1) := Lib.hid (by rw [hN]; exact Below.alloc HQd.out HQd.out.size _)
      have HCwA1 : Hid (ChunksC (fun k => k < wdw8.heap.size + 1) wA1 (.slice (some ⟨wdw8.heap.size, 0, none⟩) 2 2) [la, lr]) := Lib.hid (by rw [hN]; exact two_c (HZ.out _ (kept_tr HK7.out HQd.out)) (HFA.out _ (kept_tr HK7.out HQd.out)) (HFR.out _ (kept_tr HK7.out HQd.out)))
      have HSwA1 : Hid (∀ k, k < wdw8.heap.size + 1 → k < wA1.heap.size) := Lib.hid (fun k hk => by rw [hN]; simpa using hk)
      clear hN
      try go_wp2_with fail
      refine hK.out _ _ (by exact HFw8.out _ (Hid.out (by assumption))) (fun hHeld => ?_)
      clear hK K
      try simp only [Act.put, List.setIfInBounds_toArray, List.set_cons_zero, List.set_cons_succ]
      refine wpAnyH_ready (rs := [3]) (by kernel_rfl) (by simp) ?_
      refine AllReadyH.cons (o := ⟨_, _, _, _, _, _⟩) rfl (fun K hK => ?_) AllReadyH.nil
      go_simp
      refine (join_any _ _ [la, lr] wA1 HSwA1.out HCwA1.out (by simp; omega) (by simp)).mono ?_
      rintro e wA2 ⟨vj, rfl, hO, hb⟩
      have HBwA2 : Hid (Below w7.heap.size w7 wA2) := Lib.hid (kept_tr HBwA1.out hb)
      have hO' : Own wA2 wA1.heap.size vj xw8 := by rw [HXw8.out]; simpa using hO
      have HJwA2 : Hid (BytesC (fun k => wA1.heap.size ≤ k ∧ k < wA2.heap.size) wA2 vj xw8) := Lib.hid (own_c hO')
      obtain ⟨ja, jc, rfl⟩ := own_slice hO'
      clear hO hO' hb
      try go_wp2_with fail
      refine hK.out _ _ (by exact HFw8.out _ (Hid.out (by assumption))) (fun hHeld => ?_)
      clear hK K
      try simp only [Act.put, List.setIfInBounds_toArray, List.set_cons_zero, List.set_cons_succ]
      refine wpAnyH_ready (rs := [5]) (by kernel_rfl) (by simp) ?_
      refine AllReadyH.cons (o := ⟨_, _, _, _, _, _⟩) rfl (fun K hK => ?_) AllReadyH.nil
      go_simp
      refine (cut_ok _ _ xw8 4 64 3 wA2 (fun k hk => hk.2) HJwA2.out (by omega) rfl).mono ?_
      rw [HXw8.out, HEA.out, ← HP8.out]
      rintro e w8 ⟨vc, rfl, hO, hb⟩
      have HBw8 : Hid (Below w7.heap.size w7 w8) := Lib.hid (kept_tr HBwA2.out hb)
      have HVw8 := Lib.hid (ownI_c hO)
      obtain ⟨pa, pc, rfl⟩ := ownI_slice hO
      clear hO hb
      try go_wp2_with fail
      refine hK.out _ _ (by exact HFw8.out _ (Hid.out (by assumption))) (fun hHeld => ?_)
      clear hK K
      try simp only [Act.put, List.setIfInBounds_toArray, List.set_cons_zero, List.set_cons_succ]
      refine wpAnyH_take (i := 6) (oi := ⟨_, _, _, _, _, _⟩) (v := ?_) rfl (by kernel_rfl) (by kernel_rfl) (by kernel_rfl) (fun _ _ _ h => h) (Or.inl ⟨by rfl, ?_⟩) (by assumption) ?_
      rotate_left
      · intro w hSw; (try dsimp only at hSw); first | (go_simp; done) | (go_simp; with_reducible rfl)
      try simp only [Act.put, List.setIfInBounds_toArray, List.set_cons_zero, List.set_cons_succ]
      refine wpAnyH_take (i := 7) (oi := ⟨_, _, _, _, _, _⟩) (v := ?_) rfl (by kernel_rfl) (by kernel_rfl) (by kernel_rfl) (fun _ _ _ h => h) (Or.inl ⟨by rfl, ?_⟩) (by assumption) ?_
      rotate_left
      · intro w hSw; (try dsimp only at hSw); first | (go_simp; done) | (go_simp; with_reducible rfl)
      try simp only [Act.put, List.setIfInBounds_toArray, List.set_cons_zero, List.set_cons_succ]
      refine wpAnyH_take (i := 8) (oi := ⟨_, _, _, _, _, _⟩) (v := ?_) rfl (by kernel_rfl) (by kernel_rfl) (by kernel_rfl) (fun _ _ _ h => h) (Or.inl ⟨by rfl, ?_⟩) (by assumption) ?_
      rotate_left
      · intro w hSw; (try dsimp only at hSw); first | (go_simp; done) | (go_simp; with_reducible rfl)
      try simp only [Act.put, List.setIfInBounds_toArray, List.set_cons_zero, List.set_cons_succ]
      refine wpAnyH_take (i := 9) (oi := ⟨_, _, _, _, _, _⟩) (v := ?_) rfl (by kernel_rfl) (by kernel_rfl) (by kernel_rfl) (fun _ _ _ h => h) (Or.inl ⟨by rfl, ?_⟩) (by assumption) ?_
      rotate_left
      · intro w hSw; (try dsimp only at hSw); first | (go_simp; done) | (go_simp; with_reducible rfl)
      try simp only [Act.put, List.setIfInBounds_toArray, List.set_cons_zero, List.set_cons_succ]
      refine wpAnyH_take (i := 10) (oi := ⟨_, _, _, _, _, _⟩) (v := ?_) rfl (by kernel_rfl) (by kernel_rfl) (by kernel_rfl) (fun _ _ _ h => h) (Or.inl ⟨by rfl, ?_⟩) (by assumption) ?_
      rotate_left
      · intro w hSw; (try dsimp only at hSw); first | (go_simp; done) | (go_simp; with_reducible rfl)
      try simp only [Act.put, List.setIfInBounds_toArray, List.set_cons_zero, List.set_cons_succ]
      refine wpAnyH_done (by kernel_rfl) ?_ _
      have HK8 : Hid (Below w2.heap.size w2 w8) := Lib.hid (kept_tr HK7.out HBw8.out)
      have HD8 : Hid (Below w3.heap.size w3 w8) := Lib.hid (kept_tr HD7.out HBw8.out)
      have HE8 : Hid (Below w4.heap.size w4 w8) := Lib.hid (kept_tr HE7.out HBw8.out)
      go_upto_region 10 with fail
      have HFw9 : Hid (∀ w', Below w8.heap.size w8 w' → w'.cell? ⟨b7, 0, none⟩ = some (.int .i64 4) ∧ w'.cell? ⟨b7, 1, none⟩ = some (.int .i64 64) ∧ w'.cell? ⟨b7, 2, none⟩ = some (.int .i64 3) ∧ Hid (Below w8.heap.size w8 w')) := Lib.hid (fun w' hb => by
        obtain ⟨e0, e1, e2⟩ := HFN.out _ (kept_tr HK8.out hb)
        exact ⟨e0, e1, e2, Lib.hid hb⟩)
      obtain ⟨xw9, hx⟩ : ∃ x, x = lb ++ lr := ⟨_, rfl⟩
      have hxlw9 : xw9.length ≤ 2097152 := by rw [hx, List.length_append]; omega
      have HXw9 := Lib.hid hx
      clear hx
      obtain ⟨P9, hP⟩ : ∃ x, x = cutL 4 64 3 lb ++ cutL 4 64 3 lr := ⟨_, rfl⟩
      have HP9 := Lib.hid hP
      have hpl9 : P9.length ≤ 2097152 := by rw [hP, List.length_append]; have h1 := HCB.out; have h2 := HCR.out; omega
      clear hP
      refine wp_region_held_drew (S := (fun w' => w'.cell? ⟨b7, 0, none⟩ = some (.int .i64 4) ∧ w'.cell? ⟨b7, 1, none⟩ = some (.int .i64 64) ∧ w'.cell? ⟨b7, 2, none⟩ = some (.int .i64 3) ∧ Hid (Below w8.heap.size w8 w'))) (by kernel_rfl) (by exact HFw9.out _ (below_dr w8)) (fun hHeld => ?_)
      have HQd : Hid (Below w8.heap.size w8 w8.drew) := Lib.hid (below_dr w8)
      generalize w8.drew = wdw9 at *
      refine wpAnyH_take (i := 0) (oi := ⟨_, _, _, _, _, _⟩) (v := ?_) rfl (by kernel_rfl) (by kernel_rfl) (by kernel_rfl) (fun _ _ _ h => h) (Or.inl ⟨by rfl, ?_⟩) (by assumption) ?_
      rotate_left
      · intro w hSw; (try dsimp only at hSw); first | (go_simp; done) | (go_simp; with_reducible rfl)
      try simp only [Act.put, List.setIfInBounds_toArray, List.set_cons_zero, List.set_cons_succ]
      refine wpAnyH_take (i := 1) (oi := ⟨_, _, _, _, _, _⟩) (v := ?_) rfl (by kernel_rfl) (by kernel_rfl) (by kernel_rfl) (fun _ _ _ h => h) (Or.inl ⟨by rfl, ?_⟩) (by assumption) ?_
      rotate_left
      · intro w hSw; (try dsimp only at hSw); first | (go_simp; done) | (go_simp; with_reducible rfl)
      try simp only [Act.put, List.setIfInBounds_toArray, List.set_cons_zero, List.set_cons_succ]
      refine wpAnyH_take (i := 4) (oi := ⟨_, _, _, _, _, _⟩) (v := ?_) rfl (by kernel_rfl) (by kernel_rfl) (by kernel_rfl) (fun _ _ _ h => h) (Or.inl ⟨by rfl, ?_⟩) (by assumption) ?_
      rotate_left
      · intro w hSw; (try dsimp only at hSw); first | (go_simp; done) | (go_simp; with_reducible rfl)
      try simp only [Act.put, List.setIfInBounds_toArray, List.set_cons_zero, List.set_cons_succ]
      refine wpAnyH_ready (rs := [2]) (by kernel_rfl) (by simp) ?_
      refine AllReadyH.cons (o := ⟨_, _, _, _, _, _⟩) rfl (fun K hK => ?_) AllReadyH.nil
      go_simp
      refine any_step (fun wB1 hN => ?_)
      have HBwB1 : Hid (Below w8.heap.size w8 wB1) := Lib.hid (by rw [hN]; exact Below.alloc HQd.out HQd.out.size _)
      have HCwB1 : Hid (ChunksC (fun k => k < wdw9.heap.size + 1) wB1 (.slice (some ⟨wdw9.heap.size, 0, none⟩) 2 2) [lb, lr]) := Lib.hid (by rw [hN]; exact two_c (HZ.out _ (kept_tr HK8.out HQd.out)) (HFB.out _ (kept_tr HK8.out HQd.out)) (HFR.out _ (kept_tr HK8.out HQd.out)))
      have HSwB1 : Hid (∀ k, k < wdw9.heap.size + 1 → k < wB1.heap.size) := Lib.hid (fun k hk => by rw [hN]; simpa using hk)
      clear hN
      try go_wp2_with fail
      refine hK.out _ _ (by exact HFw9.out _ (Hid.out (by assumption))) (fun hHeld => ?_)
      clear hK K
      try simp only [Act.put, List.setIfInBounds_toArray, List.set_cons_zero, List.set_cons_succ]
      refine wpAnyH_ready (rs := [3]) (by kernel_rfl) (by simp) ?_
      refine AllReadyH.cons (o := ⟨_, _, _, _, _, _⟩) rfl (fun K hK => ?_) AllReadyH.nil
      go_simp
      refine (join_any _ _ [lb, lr] wB1 HSwB1.out HCwB1.out (by simp; omega) (by simp)).mono ?_
      rintro e wB2 ⟨vj, rfl, hO, hb⟩
      have HBwB2 : Hid (Below w8.heap.size w8 wB2) := Lib.hid (kept_tr HBwB1.out hb)
      have hO' : Own wB2 wB1.heap.size vj xw9 := by rw [HXw9.out]; simpa using hO
      have HJwB2 : Hid (BytesC (fun k => wB1.heap.size ≤ k ∧ k < wB2.heap.size) wB2 vj xw9) := Lib.hid (own_c hO')
      obtain ⟨ja, jc, rfl⟩ := own_slice hO'
      clear hO hO' hb
      try go_wp2_with fail
      refine hK.out _ _ (by exact HFw9.out _ (Hid.out (by assumption))) (fun hHeld => ?_)
      clear hK K
      try simp only [Act.put, List.setIfInBounds_toArray, List.set_cons_zero, List.set_cons_succ]
      refine wpAnyH_ready (rs := [5]) (by kernel_rfl) (by simp) ?_
      refine AllReadyH.cons (o := ⟨_, _, _, _, _, _⟩) rfl (fun K hK => ?_) AllReadyH.nil
      go_simp
      refine (cut_ok _ _ xw9 4 64 3 wB2 (fun k hk => hk.2) HJwB2.out (by omega) rfl).mono ?_
      rw [HXw9.out, HEB.out, ← HP9.out]
      rintro e w9 ⟨vc, rfl, hO, hb⟩
      have HBw9 : Hid (Below w8.heap.size w8 w9) := Lib.hid (kept_tr HBwB2.out hb)
      have HVw9 := Lib.hid (ownI_c hO)
      obtain ⟨qa, qc, rfl⟩ := ownI_slice hO
      clear hO hb
      try go_wp2_with fail
      refine hK.out _ _ (by exact HFw9.out _ (Hid.out (by assumption))) (fun hHeld => ?_)
      clear hK K
      try simp only [Act.put, List.setIfInBounds_toArray, List.set_cons_zero, List.set_cons_succ]
      refine wpAnyH_take (i := 6) (oi := ⟨_, _, _, _, _, _⟩) (v := ?_) rfl (by kernel_rfl) (by kernel_rfl) (by kernel_rfl) (fun _ _ _ h => h) (Or.inl ⟨by rfl, ?_⟩) (by assumption) ?_
      rotate_left
      · intro w hSw; (try dsimp only at hSw); first | (go_simp; done) | (go_simp; with_reducible rfl)
      try simp only [Act.put, List.setIfInBounds_toArray, List.set_cons_zero, List.set_cons_succ]
      refine wpAnyH_take (i := 7) (oi := ⟨_, _, _, _, _, _⟩) (v := ?_) rfl (by kernel_rfl) (by kernel_rfl) (by kernel_rfl) (fun _ _ _ h => h) (Or.inl ⟨by rfl, ?_⟩) (by assumption) ?_
      rotate_left
      · intro w hSw; (try dsimp only at hSw); first | (go_simp; done) | (go_simp; with_reducible rfl)
      try simp only [Act.put, List.setIfInBounds_toArray, List.set_cons_zero, List.set_cons_succ]
      refine wpAnyH_take (i := 8) (oi := ⟨_, _, _, _, _, _⟩) (v := ?_) rfl (by kernel_rfl) (by kernel_rfl) (by kernel_rfl) (fun _ _ _ h => h) (Or.inl ⟨by rfl, ?_⟩) (by assumption) ?_
      rotate_left
      · intro w hSw; (try dsimp only at hSw); first | (go_simp; done) | (go_simp; with_reducible rfl)
      try simp only [Act.put, List.setIfInBounds_toArray, List.set_cons_zero, List.set_cons_succ]
      refine wpAnyH_take (i := 9) (oi := ⟨_, _, _, _, _, _⟩) (v := ?_) rfl (by kernel_rfl) (by kernel_rfl) (by kernel_rfl) (fun _ _ _ h => h) (Or.inl ⟨by rfl, ?_⟩) (by assumption) ?_
      rotate_left
      · intro w hSw; (try dsimp only at hSw); first | (go_simp; done) | (go_simp; with_reducible rfl)
      try simp only [Act.put, List.setIfInBounds_toArray, List.set_cons_zero, List.set_cons_succ]
      refine wpAnyH_take (i := 10) (oi := ⟨_, _, _, _, _, _⟩) (v := ?_) rfl (by kernel_rfl) (by kernel_rfl) (by kernel_rfl) (fun _ _ _ h => h) (Or.inl ⟨by rfl, ?_⟩) (by assumption) ?_
      rotate_left
      · intro w hSw; (try dsimp only at hSw); first | (go_simp; done) | (go_simp; with_reducible rfl)
      try simp only [Act.put, List.setIfInBounds_toArray, List.set_cons_zero, List.set_cons_succ]
      refine wpAnyH_done (by kernel_rfl) ?_ _
      have HK9 : Hid (Below w2.heap.size w2 w9) := Lib.hid (kept_tr HK8.out HBw9.out)
      have HD9 : Hid (Below w3.heap.size w3 w9) := Lib.hid (kept_tr HD8.out HBw9.out)
      have HE9 : Hid (Below w4.heap.size w4 w9) := Lib.hid (kept_tr HE8.out HBw9.out)
      have HXF := Lib.hid (HFX.out _ HD9.out)
      have HYF := Lib.hid (HFY.out _ HE9.out)
      have HZF := Lib.hid (HFZ.out _ (kept_tr HBw8.out HBw9.out))
      have HV8 : Hid (∀ w', Below w8.heap.size w8 w' → IntsC (fun k => wA2.heap.size ≤ k ∧ k < w8.heap.size) w' (.slice pa P8.length pc) P8) := Lib.hid (fun w' hb => HVw8.out.kept (fun k hk => ⟨hk, hb.block k hk.2⟩))
      have hca := HCA.out
      have hcb := HCB.out
      have hcr := HCR.out
      have hK9 := HK9.out.size
      generalize cutL 4 64 3 la = LX at *
      generalize cutL 4 64 3 lb = LY at *
      generalize cutL 4 64 3 lr = LZ at *
      have HE0 := Lib.hid (own_emptyI w9)
      have HXs := Lib.hid (HXF.out.kept (S' := fun k => w2.heap.size ≤ k ∧ k < w3.heap.size) (w' := w9.alloc (.cells #[] 3)) (fun k hk => ⟨hk, Below.heap_alloc _ _ k (by have := HD9.out.size; omega)⟩))
      go_wp2_with (at_builtin; refine wpList_own_srcW _ (by rfl) _ _ 26 26 rfl w9.heap.size 3 i0 (.int .i64 0) 1 8 Try.underlying26 hi hz0 hz1 hz2 rfl (by decide) _ _ _ rfl HE0.out _ _ _ rfl HXs.out.src (by first | (simp; unfold maxLen; omega) | (unfold maxLen; omega)) (by first | omega | (simp; omega)) (by simp) ?_)
      intro v2 w10 hown2 hg2
      have hO2 : OwnI w10 w9.heap.size v2 LX := ownI_more (l := []) (by simp) hown2
      have HG10 : Hid (Below w9.heap.size w9 w10) := Lib.hid ((below_al w9 _).grown hg2.gb (by simp) (fun k hk => by simp [Value.ownBlock] at hk; omega))
      have HO2 := Lib.hid hO2
      have HZs := Lib.hid (HZF.out.kept (S' := fun k => w6.heap.size ≤ k ∧ k < w7.heap.size) (w' := w10) (fun k hk => ⟨hk, HG10.out.block k (by have := (kept_tr HBw8.out HBw9.out).size; omega)⟩))
      clear hO2
      clear hown2 hg2
      go_wp2_with (at_builtin; refine wpList_own_srcW _ (by rfl) _ _ 26 26 rfl w9.heap.size 3 i0 (.int .i64 0) 1 8 Try.underlying26 hi hz0 hz1 hz2 rfl (by decide) _ _ _ rfl HO2.out _ _ _ rfl HZs.out.src (by first | (simp; unfold maxLen; omega) | (unfold maxLen; omega)) (by first | omega | (simp; omega)) (by exact HG10.out.size) ?_)
      intro v3 w11 hown3 hg3
      have HO3 : Hid (OwnI w11 w9.heap.size v3 (LX ++ LZ)) := Lib.hid (ownI_more rfl hown3)
      have HG11 : Hid (Below w9.heap.size w9 w11) := Lib.hid (HG10.out.grown hg3.gb HG10.out.size (fun k hk => (World.ownsRow.lt HO2.out k hk).1))
      clear hown3 hg3
      have HS12 := Lib.hid (same_true _ _ _ _ P8 w11 (HV8.out _ (kept_tr HBw9.out HG11.out)) (by rw [HP8.out]; exact ownI_c HO3.out) (by omega))
      go_wp2_with fail
      refine HS12.out.mono ?_
      rintro e w12 ⟨rfl, n12, rfl⟩
      have HG12 := Lib.hid (below_tn HG11.out n12)
      generalize w11.drewN n12 = w12 at *
      have HE0' := Lib.hid (own_emptyI w12)
      have hs12 := HG12.out.size
      have HYs := Lib.hid (HYF.out.kept (S' := fun k => w3.heap.size ≤ k ∧ k < w4.heap.size) (w' := w12.alloc (.cells #[] 3)) (fun k hk => ⟨hk, (Below.heap_alloc _ _ k (by have := HE9.out.size; omega)).trans (HG12.out.block k (by have := HE9.out.size; omega))⟩))
      go_wp2_with (at_builtin; refine wpList_own_srcW _ (by rfl) _ _ 26 26 rfl w12.heap.size 3 i0 (.int .i64 0) 1 8 Try.underlying26 hi hz0 hz1 hz2 rfl (by decide) _ _ _ rfl HE0'.out _ _ _ rfl HYs.out.src (by first | (simp; unfold maxLen; omega) | (unfold maxLen; omega)) (by first | omega | (simp; omega)) (by simp) ?_)
      intro v2 w13 hown2 hg2
      have hO2 : OwnI w13 w12.heap.size v2 LY := ownI_more (l := []) (by simp) hown2
      have HG13' : Hid (Below w12.heap.size w12 w13) := Lib.hid ((below_al w12 _).grown hg2.gb (by simp) (fun k hk => by simp [Value.ownBlock] at hk; omega))
      have HG13 : Hid (Below w9.heap.size w9 w13) := Lib.hid (kept_tr HG12.out HG13'.out)
      have HO5 := Lib.hid hO2
      have HZt := Lib.hid (HZF.out.kept (S' := fun k => w6.heap.size ≤ k ∧ k < w7.heap.size) (w' := w13) (fun k hk => ⟨hk, HG13.out.block k (by have := (kept_tr HBw8.out HBw9.out).size; omega)⟩))
      clear hO2
      clear hown2 hg2
      go_wp2_with (at_builtin; refine wpList_own_srcW _ (by rfl) _ _ 26 26 rfl w12.heap.size 3 i0 (.int .i64 0) 1 8 Try.underlying26 hi hz0 hz1 hz2 rfl (by decide) _ _ _ rfl HO5.out _ _ _ rfl HZt.out.src (by first | (simp; unfold maxLen; omega) | (unfold maxLen; omega)) (by first | omega | (simp; omega)) (by exact HG13'.out.size) ?_)
      intro v3 w14 hown3 hg3
      have HO6 : Hid (OwnI w14 w12.heap.size v3 (LY ++ LZ)) := Lib.hid (ownI_more rfl hown3)
      have HG14 : Hid (Below w9.heap.size w9 w14) := Lib.hid (kept_tr HG12.out (HG13'.out.grown hg3.gb HG13'.out.size (fun k hk => (World.ownsRow.lt HO5.out k hk).1)))
      clear hown3 hg3
      have HS15 := Lib.hid (same_true _ _ _ _ P9 w14 ((HVw9.out).kept (S' := fun k => wB2.heap.size ≤ k ∧ k < w9.heap.size) (fun k hk => ⟨hk, HG14.out.block k hk.2⟩)) (by rw [HP9.out]; exact ownI_c HO6.out) (by omega))
      go_wp2_with fail
      refine HS15.out.mono ?_
      rintro e w15 ⟨rfl, n15, rfl⟩
      have HG15 := Lib.hid (below_tn HG14.out n15)
      generalize w14.drewN n15 = w15 at *
      go_wp2_with fail
      go_ret
      exact ⟨rfl, HW2.out.trans ((kept_tr HK9.out HG15.out).mono HW2.out.size)⟩
end Go.Proofs.Ytgfnlplgkgoinaa
