/- The walk of the law GrainBack. -/
import Derived.Test.YtgppadnbfggkcaaAe
namespace Go.Proofs.Ytgppadnbfggkcaa
open Go.RowKit

theorem norm_kind (n : Nat) (k : Int) (u : Nat) (b : List UInt8) (f : Nat) (l : List Val) : ∃ u' b' f' l', normV (n + 1) (.mk k u b f l) = .mk k u' b' f' l' := by
  simp only [normV]
  split
  · rename_i h; exact ⟨_, _, _, _, by rw [h]⟩
  split
  · rename_i h; exact ⟨_, _, _, _, by rw [h]⟩
  split
  · rename_i h; exact ⟨_, _, _, _, by rw [h]⟩
  · exact ⟨_, _, _, _, rfl⟩
theorem listD_err {g : List UInt8 → Except Int (Val × List UInt8)} (hg : ∀ {l c}, g l = .error c → c ≠ 0) : ∀ (m : Nat) (l : List UInt8) {c : Int}, listD g m l = .error c → c ≠ 0
  | 0, l, c, h => by simp only [listD] at h; cases h
  | m + 1, l, c, h => by
    simp only [listD] at h
    cases hl : g l with
    | error d => rw [hl] at h; injection h with h; subst h; exact hg hl
    | ok y =>
      obtain ⟨x, r1⟩ := y
      rw [hl] at h
      simp only at h
      cases hm : listD g m r1 with
      | error d => rw [hm] at h; injection h with h; subst h; exact listD_err hg m r1 hm
      | ok z => rw [hm] at h; cases h
theorem valD_err : ∀ {n : Nat} {l : List UInt8} {c : Int}, valD n l = .error c → c ≠ 0
  | 0, _, _, h => by simp only [valD] at h; injection h with h; subst h; decide
  | n + 1, l, c, h => by
    simp only [valD] at h
    cases hh : headD l with
    | error d => rw [hh] at h; injection h with h; subst h; exact headD_err hh
    | ok y =>
      obtain ⟨k, m, r1⟩ := y
      rw [hh] at h
      simp only at h
      split at h
      · cases h
      split at h
      · split at h
        · injection h with h; subst h; decide
        · cases h
      split at h
      · cases hf : floatD m r1 with
        | error d =>
          rw [hf] at h
          injection h with h; subst h
          unfold floatD at hf
          split at hf
          · injection hf with hf; subst hf; decide
          split at hf
          · injection hf with hf; subst hf; decide
          · cases hf
        | ok z => rw [hf] at h; cases h
      · cases hd : listD (valD n) m r1 with
        | error d => rw [hd] at h; injection h with h; subst h; exact listD_err (fun e => valD_err e) m r1 hd
        | ok z => rw [hd] at h; cases h
theorem decR_err {l : List UInt8} {c : Int} (h : decR l = .error c) : c ≠ 0 := by
  unfold decR at h
  split at h
  · injection h with h; subst h; decide
  cases hv : valD 16 l with
  | error d => rw [hv] at h; injection h with h; subst h; exact valD_err hv
  | ok p =>
    obtain ⟨x, r⟩ := p
    rw [hv] at h
    cases r with
    | nil => cases h
    | cons d r => injection h with h; subst h; decide
set_option maxRecDepth 100000 in
set_option maxHeartbeats 2000000 in
theorem law_back (xv : Value) (x : Val) (bv : Value) (lb : List UInt8) (w : World) (hR : Reads w.heap.size w 16 xv x) (hB : BytesC (fun k => k < w.heap.size) w bv lb) : Calls Try.prog 5 #[xv, bv] w (True' w) := by
  have hst := run_storeF
  have HR := Lib.hid hR
  have HF := Lib.hid hR.fine
  have HB := Lib.hid hB
  have HCE := Lib.hid (fun c (h : decR lb = .error c) (h0 : c = 0) => decR_err h h0)
  obtain ⟨sb, cb, rfl⟩ := hB.shape
  obtain ⟨k, u, b, f, l⟩ := x
  obtain ⟨a1, n1, p1, a2, n2, p2, rfl⟩ := hR.shape
  obtain ⟨k2, u2, b2, f2, hnk⟩ := norm_kind 15 k u b f l
  have HNK := Lib.hid hnk
  clear hR hB hnk
  go_enter Try.func5, Try.ntmps5
  go_wp2_with fail
  refine (awake_any _).mono ?_
  rintro e w1 ⟨rfl, hb1⟩
  have hs1 := hb1.size
  simp at hs1
  obtain ⟨⟨c0, c1, c2, c3, c4⟩, _⟩ := five_cells ((hb1.block w.heap.size (by simp)).trans (new_five w _ 27))
  have HB1 := Lib.hid (((Below.refl _ w).alloc (Nat.le_refl _) _).trans (hb1.mono (by simp)))
  clear hb1
  go_wp2_with fail
  have henc := encode_any _ _ w1 (HR.out.step HB1.out)
  have HED := Lib.hid (fun q (h : encR (.mk k u b f l) = .ok q) => enc_dec HF.out h)
  have HEE := Lib.hid (fun c (h : encR (.mk k u b f l) = .error c) => enc_err (n := 16) h)
  generalize encR (.mk k u b f l) = r at *
  refine henc.mono ?_
  clear henc c1 c2 c3 c4
  cases r with
  | error c =>
    rintro e w4 ⟨rfl, hb4⟩
    have hs4 := hb4.size
    have HB4 := Lib.hid (HB1.out.trans (hb4.mono (by omega)))
    have HCB := Lib.hid (HB.out.kept (S' := fun k => k < w4.heap.size) (fun k hk => ⟨by omega, HB4.out.block k hk⟩))
    have hcb : (c == 0) = false := by rw [beq_eq_false_iff_ne]; exact HEE.out c rfl
    clear hb4 c0
    go_wp2_with fail
    clear hcb
    refine (decode_any _ _ lb _ (fun k hk => hk) HCB.out).mono ?_
    have hdeep : ∀ y, decR lb = .ok y → encR y = .ok lb := fun y hy => dec_enc hy
    have HDP := Lib.hid hdeep
    clear hdeep
    generalize decR lb = rd at *
    cases rd with
    | error c =>
      rintro e w5 ⟨rfl, hb5⟩
      have hs5 := hb5.size
      have HB5 := Lib.hid (HB4.out.trans (hb5.mono (by omega)))
      clear hb5
      have hz : Reads 0 (w5.alloc (.cells #[.int .i64 0, .int .u64 0, .slice none 0 0, .float .f64 0, .slice none 0 0] 27)) 1 (.agg #[.int .i64 0, .int .u64 0, .slice none 0 0, .float .f64 0, .slice none 0 0]) (.mk 0 0 [] 0 []) :=
        ⟨_, _, rfl, by omega, by omega, by simp, by simp, Or.inl ⟨rfl, rfl⟩, Or.inl ⟨none, 0, rfl, rfl⟩⟩
      have HZ := Lib.hid (same_ok 1 0 _ _ _ _ (Nat.zero_le _) (show Deep 1 (.mk 0 0 [] 0 []) from fun y hy => by simp at hy) hz hz)
      clear hz
      by_cases hc0 : c = 0
      · exact (HCE.out c rfl hc0).elim
      · have hcb : (c == 0) = false := by rw [beq_eq_false_iff_ne]; exact hc0
        clear hc0
        go_wp2_with fail
        refine HZ.out.mono ?_
        rintro e w6 ⟨rfl, hb6⟩
        have HB6 := Lib.hid ((HB5.out.alloc (by omega) _).trans (hb6.mono (by simp; omega)))
        clear hb6
        go_wp2_with fail
        go_ret
        exact ⟨rfl, HB6.out⟩
    | ok y =>
      rintro e w5 ⟨v5, rfl, hx5, hb5⟩
      have hs5 := hb5.size
      obtain ⟨yk, yu, yb, yf, yl⟩ := y
      obtain ⟨ya1, yn1, yp1, ya2, yn2, yp2, rfl⟩ := hx5.shape
      have HB5 := Lib.hid (HB4.out.trans (hb5.mono (by omega)))
      have hen := encode_any _ _ (w5.alloc (.cells #[.int .i64 yk, .int .u64 yu, .slice ya1 yn1 yp1, .float .f64 yf, .slice ya2 yn2 yp2] 27)) (ReadsS.into (S := fun j => j < (w5.alloc (.cells #[.int .i64 yk, .int .u64 yu, .slice ya1 yn1 yp1, .float .f64 yf, .slice ya2 yn2 yp2] 27)).heap.size) (fun j hj => hj) 16 _ _
        (ReadsS.kept (fun j hj => ⟨by simp; omega, Below.heap_alloc _ _ _ hj.2⟩) 16 _ _ hx5))
      rw [HDP.out _ rfl] at hen
      have HE5 := Lib.hid hen
      have HIB := Lib.hid (HCB.out.into (B := w4.heap.size) (fun k hk => hk))
      have HBB := Lib.hid hb5
      clear hen hb5 hx5
      go_wp2_with fail
      refine HE5.out.mono ?_
      rintro e w6 ⟨v6, rfl, hown6, hb6⟩
      have hs6 := hb6.size
      have hcv6 := bytes_string (own_bytes hown6 (Nat.le_refl _))
      obtain ⟨sa6, sc6, rfl⟩ := own_slice hown6
      have hcvb := bytes_string ((HIB.out.below (HBB.out.alloc (by omega) _)).below (hb6.mono (by simp; omega)))
      have HB6 := Lib.hid ((HB5.out.alloc (by omega) _).trans (hb6.mono (by simp; omega)))
      clear hb6 hown6
      go_wp2_with fail
      go_ret
      exact ⟨rfl, HB6.out⟩
  | ok o =>
    rintro e w2 ⟨v2, rfl, hown2, hb2⟩
    have hs2 := hb2.size
    have d0 := (hb2.cell (p := ⟨w.heap.size, 0, none⟩) (by show w.heap.size < _; omega)).trans c0
    have HB2 := Lib.hid (HB1.out.trans (hb2.mono (by omega)))
    have HO2 := Lib.hid hown2
    obtain ⟨sa, sc, rfl⟩ := own_slice hown2
    have hdec := decode_any _ _ o w2 (fun k hk => hk.2) (own_c hown2)
    rw [(HED.out o rfl).1, HNK.out] at hdec
    have HDEC := Lib.hid hdec
    clear hb2 hown2 c0 hdec
    go_wp2_with fail
    refine HDEC.out.mono ?_
    rintro e w3 ⟨v3, rfl, hx3, hb3⟩
    have hs3 := hb3.size
    obtain ⟨xa1, xn1, xp1, xa2, xn2, xp2, rfl⟩ := hx3.shape
    have HB3 := Lib.hid (HB2.out.trans (hb3.mono (by omega)))
    have hen := encode_any _ _ (w3.alloc (.cells #[.int .i64 k, .int .u64 k2, .slice xa1 xn1 xp1, .float .f64 b2, .slice xa2 xn2 xp2] 27)) (ReadsS.into (S := fun j => j < (w3.alloc (.cells #[.int .i64 k, .int .u64 k2, .slice xa1 xn1 xp1, .float .f64 b2, .slice xa2 xn2 xp2] 27)).heap.size) (fun j hj => hj) 16 _ _
      (ReadsS.kept (fun j hj => ⟨by simp; omega, Below.heap_alloc _ _ _ hj.2⟩) 16 _ _ hx3))
    rw [← HNK.out, (HED.out o rfl).2] at hen
    have HEN := Lib.hid hen
    have hbw := Lib.hid hb3
    have e0 := (hb3.cell (p := ⟨w.heap.size, 0, none⟩) (by show w.heap.size < _; omega)).trans d0
    clear hen hx3 hb3 d0
    go_wp2_with fail
    refine HEN.out.mono ?_
    rintro e w4 ⟨v4, rfl, hown4, hb4⟩
    have hs4 := hb4.size
    simp at hs4
    have hcv4 := bytes_string (own_bytes hown4 (Nat.le_refl _))
    obtain ⟨sa4, sc4, rfl⟩ := own_slice hown4
    have hcv2 := bytes_string (((own_bytes HO2.out (Nat.le_refl w2.heap.size)).below hbw.out).below (Below.mono (((Below.refl _ w3).alloc (Nat.le_refl _) _).trans (hb4.mono (by simp))) (by omega)))
    have q0 := (hb4.cell (p := ⟨w3.heap.size, 0, none⟩) (by simp)).trans (five_cells (new_five w3 #[.int .i64 k, .int .u64 k2, .slice xa1 xn1 xp1, .float .f64 b2, .slice xa2 xn2 xp2] 27)).1.1
    have g0 : w4.cell? ⟨w.heap.size, 0, none⟩ = some (.int .i64 k) := by
      rw [hb4.cell (p := ⟨w.heap.size, 0, none⟩) (by simp; omega), World.cell?_of_block (w := w3) (Below.heap_alloc w3 _ w.heap.size (by omega))]; exact e0
    have HB4 := Lib.hid ((HB3.out.alloc (by omega) _).trans (hb4.mono (by simp; omega)))
    have HCB := Lib.hid (HB.out.kept (S' := fun k => k < w4.heap.size) (fun k hk => ⟨by omega, HB4.out.block k hk⟩))
    clear hb4 hown4 e0
    go_wp2_with fail
    clear hcv2 hcv4 q0 g0
    refine (decode_any _ _ lb _ (fun k hk => hk) HCB.out).mono ?_
    have hdeep : ∀ y, decR lb = .ok y → encR y = .ok lb := fun y hy => dec_enc hy
    have HDP := Lib.hid hdeep
    clear hdeep
    generalize decR lb = rd at *
    cases rd with
    | error c =>
      rintro e w5 ⟨rfl, hb5⟩
      have hs5 := hb5.size
      have HB5 := Lib.hid (HB4.out.trans (hb5.mono (by omega)))
      clear hb5
      have hz : Reads 0 (w5.alloc (.cells #[.int .i64 0, .int .u64 0, .slice none 0 0, .float .f64 0, .slice none 0 0] 27)) 1 (.agg #[.int .i64 0, .int .u64 0, .slice none 0 0, .float .f64 0, .slice none 0 0]) (.mk 0 0 [] 0 []) :=
        ⟨_, _, rfl, by omega, by omega, by simp, by simp, Or.inl ⟨rfl, rfl⟩, Or.inl ⟨none, 0, rfl, rfl⟩⟩
      have HZ := Lib.hid (same_ok 1 0 _ _ _ _ (Nat.zero_le _) (show Deep 1 (.mk 0 0 [] 0 []) from fun y hy => by simp at hy) hz hz)
      clear hz
      by_cases hc0 : c = 0
      · exact (HCE.out c rfl hc0).elim
      · have hcb : (c == 0) = false := by rw [beq_eq_false_iff_ne]; exact hc0
        clear hc0
        go_wp2_with fail
        refine HZ.out.mono ?_
        rintro e w6 ⟨rfl, hb6⟩
        have HB6 := Lib.hid ((HB5.out.alloc (by omega) _).trans (hb6.mono (by simp; omega)))
        clear hb6
        go_wp2_with fail
        go_ret
        exact ⟨rfl, HB6.out⟩
    | ok y =>
      rintro e w5 ⟨v5, rfl, hx5, hb5⟩
      have hs5 := hb5.size
      obtain ⟨yk, yu, yb, yf, yl⟩ := y
      obtain ⟨ya1, yn1, yp1, ya2, yn2, yp2, rfl⟩ := hx5.shape
      have HB5 := Lib.hid (HB4.out.trans (hb5.mono (by omega)))
      have hen := encode_any _ _ (w5.alloc (.cells #[.int .i64 yk, .int .u64 yu, .slice ya1 yn1 yp1, .float .f64 yf, .slice ya2 yn2 yp2] 27)) (ReadsS.into (S := fun j => j < (w5.alloc (.cells #[.int .i64 yk, .int .u64 yu, .slice ya1 yn1 yp1, .float .f64 yf, .slice ya2 yn2 yp2] 27)).heap.size) (fun j hj => hj) 16 _ _
        (ReadsS.kept (fun j hj => ⟨by simp; omega, Below.heap_alloc _ _ _ hj.2⟩) 16 _ _ hx5))
      rw [HDP.out _ rfl] at hen
      have HE5 := Lib.hid hen
      have HIB := Lib.hid (HCB.out.into (B := w4.heap.size) (fun k hk => hk))
      have HBB := Lib.hid hb5
      clear hen hb5 hx5
      go_wp2_with fail
      refine HE5.out.mono ?_
      rintro e w6 ⟨v6, rfl, hown6, hb6⟩
      have hs6 := hb6.size
      have hcv6 := bytes_string (own_bytes hown6 (Nat.le_refl _))
      obtain ⟨sa6, sc6, rfl⟩ := own_slice hown6
      have hcvb := bytes_string ((HIB.out.below (HBB.out.alloc (by omega) _)).below (hb6.mono (by simp; omega)))
      have HB6 := Lib.hid ((HB5.out.alloc (by omega) _).trans (hb6.mono (by simp; omega)))
      clear hb6 hown6
      go_wp2_with fail
      go_ret
      exact ⟨rfl, HB6.out⟩
end Go.Proofs.Ytgppadnbfggkcaa
