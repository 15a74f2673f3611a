/- The walk of the law GrainCuts. -/
import Derived.Test.YtgppadnbfggkcaaAg
import Derived.Deep.Cut
namespace Go.Proofs.Ytgppadnbfggkcaa
open Go.RowKit

theorem cut_c {S : Nat → Prop} {w : World} {a : Addr} {l : List UInt8} {cap : Nat} (h : BytesC S w (.slice (some a) l.length cap) l) (j : Nat) (hj : j ≤ l.length) : BytesC S w (.slice (some a) j cap) (l.take j) := by
  rcases h with ⟨h, _⟩ | ⟨a', cap', h1, h2, h3, h4, h5⟩
  · cases h
  · injection h1 with h1 _ h1'
    injection h1 with h1
    subst h1 h1'
    have e : (l.take j).length = j := by rw [List.length_take]; omega
    refine Or.inr ⟨a, cap, by rw [e], by omega, h3, h4.imp_left (fun h => by rw [h]; simp), fun i u hi => ?_⟩
    rw [bv_take, List.getElem?_take] at hi
    split at hi
    · exact h5 i u hi
    · cases hi
set_option maxRecDepth 100000 in
set_option maxHeartbeats 4000000 in
theorem law_cuts (xv : Value) (x : Val) (less : Int) (bv : Value) (lb : List UInt8) (w : World) (hR : Reads w.heap.size w 16 xv x) (hless : -9223372036854775808 ≤ less ∧ less ≤ 9223372036854775807) (hlb : lb.length ≤ 1048576) (hB : BytesC (fun k => k < w.heap.size) w bv lb) :
    Calls Try.prog 6 #[xv, .int .i64 less, bv] w (True' w) := by
  have hst := run_storeF
  obtain ⟨i0, hi, hz0, hz1, hz2⟩ := info_parts Try.info5
  have HR := Lib.hid hR
  have HF := Lib.hid hR.fine
  have HB := Lib.hid hB
  obtain ⟨sb, cb, rfl⟩ := hB.shape
  obtain ⟨k, u, b, f, l⟩ := x
  obtain ⟨a1, n1, p1, a2, n2, p2, rfl⟩ := hR.shape
  have HLS := Lib.hid hless
  clear hR hB hless
  go_enter Try.func6, Try.ntmps6
  go_wp2_with fail
  refine (awake_any _).mono ?_
  rintro e w1 ⟨rfl, hb1⟩
  have hs1 := hb1.size
  simp at hs1
  obtain ⟨⟨c0, c1, c2, c3, c4⟩, _⟩ := five_cells ((hb1.block w.heap.size (by simp)).trans (new_five w _ 27))
  have HB1 := Lib.hid (((Below.refl _ w).alloc (Nat.le_refl _) _).trans (hb1.mono (by simp)))
  clear hb1
  go_wp2_with fail
  have henc := encode_any _ _ w1 (HR.out.step HB1.out)
  have HEM := Lib.hid (fun q (h : encR (.mk k u b f l) = .ok q) m => enc_more (m := m) HF.out h)
  have HEC := Lib.hid (fun q (h : encR (.mk k u b f l) = .ok q) => enc_cut HF.out h)
  have HEL := Lib.hid (fun q (h : encR (.mk k u b f l) = .ok q) => enc_len (n := 16) h)
  have HEE := Lib.hid (fun c (h : encR (.mk k u b f l) = .error c) => enc_err (n := 16) h)
  generalize encR (.mk k u b f l) = r at *
  refine henc.mono ?_
  clear henc c0 c1 c2 c3 c4
  cases r with
  | error c =>
    rintro e w4 ⟨rfl, hb4⟩
    have HB4 := Lib.hid (HB1.out.trans (hb4.mono (by omega)))
    have hcb : (c == 0) = false := by rw [beq_eq_false_iff_ne]; exact HEE.out c rfl
    clear hb4
    go_wp2_with fail
    go_ret
    exact ⟨rfl, HB4.out⟩
  | ok o =>
    rintro e w2 ⟨v2, rfl, hown2, hb2⟩
    have hol := HEL.out o rfl
    have HMO := Lib.hid (HEM.out o rfl lb)
    have HCU := Lib.hid (HEC.out o rfl)
    have hs2 := hb2.size
    have HB2 := Lib.hid (HB1.out.trans (hb2.mono (by omega)))
    have HOC := Lib.hid (own_c hown2)
    obtain ⟨sa, sc, rfl⟩ := own_slice hown2
    clear hb2 hown2 HEM HEC HEL HEE
    by_cases hl1 : 0 < less ∧ less ≤ o.length
    · have hg1 : decide ((0 : Int) < less) = true := by simp; omega
      have hg2 : decide (less ≤ (o.length : Int)) = true := by simp; omega
      obtain ⟨j, hj⟩ : ∃ j : Nat, (o.length : Int) - less = j := ⟨((o.length : Int) - less).toNat, by omega⟩
      have hjl : j < o.length := by omega
      have hjw : wrap64 ((o.length : Int) - less) = (j : Int) := by rw [hj]; exact IntWalk.wrap64_in _ ⟨by omega, by omega⟩
      cases sa with
      | none =>
        rcases HOC.out with ⟨_, h0⟩ | ⟨_, _, h0, _⟩
        · rw [h0] at hjl; simp at hjl
        · cases h0
      | some a =>
        have hcap : o.length ≤ sc := by
          rcases HOC.out with ⟨h0, _⟩ | ⟨_, _, h0, h1, _⟩
          · cases h0
          · injection h0 with _ _ h0; omega
        have hcapm : sc ≤ 9223372036854775807 := by
          rcases HOC.out with ⟨h0, _⟩ | ⟨_, _, h0, _, h2, _⟩
          · cases h0
          · injection h0 with _ _ h0; unfold maxLen at h2; omega
        have hdc := decode_any _ _ (o.take j) w2 (fun k hk => hk.2) (cut_c HOC.out j (by omega))
        rw [HCU.out j hjl] at hdc
        have HDC := Lib.hid hdc
        have HJ := Lib.hid hj
        clear hdc hj
        go_wp2_with fail
        rw [show ((o.length : Int) - less).toNat = j by have := HJ.out; omega]
        refine HDC.out.mono ?_
        rintro e w3 ⟨rfl, hb3⟩
        go_upto_region 10 with fail
        have hs3 := hb3.size
        have hs34 : (w3.alloc (.cells #[.int .i64 0, .int .u64 0, .slice none 0 0, .float .f64 0, .slice none 0 0] 27)).heap.size = w3.heap.size + 1 := by simp
        have HBO := Lib.hid (hb3.alloc (by omega) (.cells #[.int .i64 0, .int .u64 0, .slice none 0 0, .float .f64 0, .slice none 0 0] 27))
        have HB4 := Lib.hid ((HB2.out.trans (hb3.mono (by omega))).alloc (by omega) (.cells #[.int .i64 0, .int .u64 0, .slice none 0 0, .float .f64 0, .slice none 0 0] 27))
        clear hb3
        generalize w3.alloc (.cells #[.int .i64 0, .int .u64 0, .slice none 0 0, .float .f64 0, .slice none 0 0] 27) = w4 at *
        have hs4 : w2.heap.size ≤ w4.heap.size := by omega
        clear hjw hs34
        have HCX := Lib.hid (HOC.out.kept (S' := fun k => k < (w4.alloc (.cells #[] 5)).heap.size) (w' := w4.alloc (.cells #[] 5)) (fun k hk => ⟨by simp; omega, (Below.heap_alloc w4 (.cells #[] 5) k (by omega)).trans (HBO.out.block k hk.2)⟩))
        have HE0 := Lib.hid (own_empty w4)
        go_wp2_with (at_builtin; refine wpList_own_src _ rfl _ _ 23 23 rfl w4.heap.size 5 i0 (.int .u8 0) 1 1 Try.underlying23 hi hz0 hz1 hz2 rfl (by decide) _ _ _ rfl HE0.out _ _ _ rfl HCX.out.srcC ?c3 ?c4 ?c5 ?_)
        case c3 => simp; unfold maxLen; omega
        case c4 => simp; omega
        case c5 => simp
        intro v5 w5 hown5 hg5
        have hO5 : Own w5 w4.heap.size v5 o := own_more' (l := []) (by simp) hown5
        have hs5 := hg5.size
        simp at hs5
        have HG5 := Lib.hid (HB4.out.trans (((Below.refl w4.heap.size w4).alloc (Nat.le_refl _) _ |>.grown hg5.gb (by simp) (fun k hk => by simp [Value.ownBlock] at hk; omega)).mono (by omega)))
        have HCB := Lib.hid (HB.out.kept (S' := fun k => k < w5.heap.size) (fun k hk => ⟨by omega, HG5.out.block k hk⟩))
        clear hown5 hg5
        go_wp2_with (at_builtin; refine wpList_own_src _ rfl _ _ 23 23 rfl w4.heap.size 5 i0 (.int .u8 0) 1 1 Try.underlying23 hi hz0 hz1 hz2 rfl (by decide) _ _ _ rfl hO5 _ _ _ rfl HCB.out.srcC ?d3 ?d4 ?d5 ?_)
        case d3 => unfold maxLen; omega
        case d4 => omega
        case d5 => omega
        intro v6 w6 hown6 hg6
        have hO6 : Own w6 w4.heap.size v6 (o ++ lb) := own_more' rfl hown6
        have hs6 := hg6.size
        have HG6 := Lib.hid (HG5.out.trans ((hg6.below hO5 (by omega)).mono (by omega)))
        obtain ⟨sa6, sc6, rfl⟩ := own_slice hO6
        have hdec := decode_any _ _ (o ++ lb) w6 (fun k hk => hk.2) (own_c hO6)
        rw [HMO.out, List.length_append] at hdec
        have HDEC := Lib.hid hdec
        clear hown6 hg6 hO5 hO6 hdec
        by_cases hlong : 1048576 < o.length + lb.length
        · have hd := HDEC.out
          rw [if_pos hlong] at hd
          have HD2 := Lib.hid hd
          have hlt : decide (1048576 < o.length + lb.length) = true := by simp; omega
          clear hd HDEC
          go_wp2_with fail
          refine HD2.out.mono ?_
          rintro e w7 ⟨rfl, hb7⟩
          have HB7 := Lib.hid (HG6.out.trans (hb7.mono (by omega)))
          have hs7 := hb7.size
          clear hb7
          go_wp2_with fail
          go_ret
          exact ⟨rfl, HB7.out.alloc (by omega) _⟩
        · have hlt : decide (1048576 < o.length + lb.length) = false := by simp; omega
          have hlt2 : decide ((1048576 : Int) < (o.length : Int) + (lb.length : Int)) = false := by simp; omega
          by_cases hm0 : lb = []
          · have hd := HDEC.out
            rw [if_neg hlong, if_pos hm0] at hd
            have HD2 := Lib.hid hd
            have hl0 : ((lb.length : Int) == 0) = true := by rw [hm0]; rfl
            clear hd HDEC hm0
            go_wp2_with fail
            refine HD2.out.mono ?_
            rintro e w7 ⟨v7, rfl, hx7, hb7⟩
            have HB7 := Lib.hid (HG6.out.trans (hb7.mono (by omega)))
            have hs7 := hb7.size
            generalize normV 16 (.mk k u b f l) = nx at *
            obtain ⟨nk, nu, nb, nf, nl⟩ := nx
            obtain ⟨xa1, xn1, xp1, xa2, xn2, xp2, rfl⟩ := hx7.shape
            clear hb7 hx7
            go_wp2_with fail
            go_ret
            exact ⟨rfl, HB7.out.alloc (by omega) _⟩
          · have hd := HDEC.out
            rw [if_neg hlong, if_neg hm0] at hd
            have HD2 := Lib.hid hd
            have hl0 : ((lb.length : Int) == 0) = false := by
              rw [beq_eq_false_iff_ne]
              intro h
              exact hm0 (List.eq_nil_of_length_eq_zero (by omega))
            clear hd HDEC hm0
            go_wp2_with fail
            refine HD2.out.mono ?_
            rintro e w7 ⟨rfl, hb7⟩
            have HB7 := Lib.hid (HG6.out.trans (hb7.mono (by omega)))
            have hs7 := hb7.size
            clear hb7
            go_wp2_with fail
            go_ret
            exact ⟨rfl, HB7.out.alloc (by omega) _⟩
    · obtain ⟨w4, hw4⟩ : ∃ w4, w4 = w2 := ⟨_, rfl⟩
      have HBO : Hid (Below w2.heap.size w2 w4) := Lib.hid (by rw [hw4]; exact Below.refl _ _)
      have HB4 : Hid (Below w.heap.size w w4) := Lib.hid (by rw [hw4]; exact HB2.out)
      have hs4 : w2.heap.size ≤ w4.heap.size := by rw [hw4]; exact Nat.le_refl _
      have HW4 := Lib.hid hw4
      clear hw4
      by_cases hl0 : 0 < less
      · have hg1 : decide ((0 : Int) < less) = true := by simp; omega
        have hg2 : decide (less ≤ (o.length : Int)) = false := by simp; omega
        have hl2 : (o.length : Int) < less := by omega
        clear hl1
        go_upto_region 10 with fail
        rw [← HW4.out]
        have HCX := Lib.hid (HOC.out.kept (S' := fun k => k < (w4.alloc (.cells #[] 5)).heap.size) (w' := w4.alloc (.cells #[] 5)) (fun k hk => ⟨by simp; omega, (Below.heap_alloc w4 (.cells #[] 5) k (by omega)).trans (HBO.out.block k hk.2)⟩))
        have HE0 := Lib.hid (own_empty w4)
        go_wp2_with (at_builtin; refine wpList_own_src _ rfl _ _ 23 23 rfl w4.heap.size 5 i0 (.int .u8 0) 1 1 Try.underlying23 hi hz0 hz1 hz2 rfl (by decide) _ _ _ rfl HE0.out _ _ _ rfl HCX.out.srcC ?c3 ?c4 ?c5 ?_)
        case c3 => simp; unfold maxLen; omega
        case c4 => simp; omega
        case c5 => simp
        intro v5 w5 hown5 hg5
        have hO5 : Own w5 w4.heap.size v5 o := own_more' (l := []) (by simp) hown5
        have hs5 := hg5.size
        simp at hs5
        have HG5 := Lib.hid (HB4.out.trans (((Below.refl w4.heap.size w4).alloc (Nat.le_refl _) _ |>.grown hg5.gb (by simp) (fun k hk => by simp [Value.ownBlock] at hk; omega)).mono (by omega)))
        have HCB := Lib.hid (HB.out.kept (S' := fun k => k < w5.heap.size) (fun k hk => ⟨by omega, HG5.out.block k hk⟩))
        clear hown5 hg5
        go_wp2_with (at_builtin; refine wpList_own_src _ rfl _ _ 23 23 rfl w4.heap.size 5 i0 (.int .u8 0) 1 1 Try.underlying23 hi hz0 hz1 hz2 rfl (by decide) _ _ _ rfl hO5 _ _ _ rfl HCB.out.srcC ?d3 ?d4 ?d5 ?_)
        case d3 => unfold maxLen; omega
        case d4 => omega
        case d5 => omega
        intro v6 w6 hown6 hg6
        have hO6 : Own w6 w4.heap.size v6 (o ++ lb) := own_more' rfl hown6
        have hs6 := hg6.size
        have HG6 := Lib.hid (HG5.out.trans ((hg6.below hO5 (by omega)).mono (by omega)))
        obtain ⟨sa6, sc6, rfl⟩ := own_slice hO6
        have hdec := decode_any _ _ (o ++ lb) w6 (fun k hk => hk.2) (own_c hO6)
        rw [HMO.out, List.length_append] at hdec
        have HDEC := Lib.hid hdec
        clear hown6 hg6 hO5 hO6 hdec
        by_cases hlong : 1048576 < o.length + lb.length
        · have hd := HDEC.out
          rw [if_pos hlong] at hd
          have HD2 := Lib.hid hd
          have hlt : decide (1048576 < o.length + lb.length) = true := by simp; omega
          clear hd HDEC
          go_wp2_with fail
          refine HD2.out.mono ?_
          rintro e w7 ⟨rfl, hb7⟩
          have HB7 := Lib.hid (HG6.out.trans (hb7.mono (by omega)))
          have hs7 := hb7.size
          clear hb7
          go_wp2_with fail
          go_ret
          exact ⟨rfl, HB7.out.alloc (by omega) _⟩
        · have hlt : decide (1048576 < o.length + lb.length) = false := by simp; omega
          have hlt2 : decide ((1048576 : Int) < (o.length : Int) + (lb.length : Int)) = false := by simp; omega
          by_cases hm0 : lb = []
          · have hd := HDEC.out
            rw [if_neg hlong, if_pos hm0] at hd
            have HD2 := Lib.hid hd
            have hl0 : ((lb.length : Int) == 0) = true := by rw [hm0]; rfl
            clear hd HDEC hm0
            go_wp2_with fail
            refine HD2.out.mono ?_
            rintro e w7 ⟨v7, rfl, hx7, hb7⟩
            have HB7 := Lib.hid (HG6.out.trans (hb7.mono (by omega)))
            have hs7 := hb7.size
            generalize normV 16 (.mk k u b f l) = nx at *
            obtain ⟨nk, nu, nb, nf, nl⟩ := nx
            obtain ⟨xa1, xn1, xp1, xa2, xn2, xp2, rfl⟩ := hx7.shape
            clear hb7 hx7
            go_wp2_with fail
            go_ret
            exact ⟨rfl, HB7.out.alloc (by omega) _⟩
          · have hd := HDEC.out
            rw [if_neg hlong, if_neg hm0] at hd
            have HD2 := Lib.hid hd
            have hl0 : ((lb.length : Int) == 0) = false := by
              rw [beq_eq_false_iff_ne]
              intro h
              exact hm0 (List.eq_nil_of_length_eq_zero (by omega))
            clear hd HDEC hm0
            go_wp2_with fail
            refine HD2.out.mono ?_
            rintro e w7 ⟨rfl, hb7⟩
            have HB7 := Lib.hid (HG6.out.trans (hb7.mono (by omega)))
            have hs7 := hb7.size
            clear hb7
            go_wp2_with fail
            go_ret
            exact ⟨rfl, HB7.out.alloc (by omega) _⟩
      · have hg1 : decide ((0 : Int) < less) = false := by simp; omega
        have hl2 : less ≤ 0 := by omega
        clear hl0 hl1
        go_upto_region 10 with fail
        rw [← HW4.out]
        have HCX := Lib.hid (HOC.out.kept (S' := fun k => k < (w4.alloc (.cells #[] 5)).heap.size) (w' := w4.alloc (.cells #[] 5)) (fun k hk => ⟨by simp; omega, (Below.heap_alloc w4 (.cells #[] 5) k (by omega)).trans (HBO.out.block k hk.2)⟩))
        have HE0 := Lib.hid (own_empty w4)
        go_wp2_with (at_builtin; refine wpList_own_src _ rfl _ _ 23 23 rfl w4.heap.size 5 i0 (.int .u8 0) 1 1 Try.underlying23 hi hz0 hz1 hz2 rfl (by decide) _ _ _ rfl HE0.out _ _ _ rfl HCX.out.srcC ?c3 ?c4 ?c5 ?_)
        case c3 => simp; unfold maxLen; omega
        case c4 => simp; omega
        case c5 => simp
        intro v5 w5 hown5 hg5
        have hO5 : Own w5 w4.heap.size v5 o := own_more' (l := []) (by simp) hown5
        have hs5 := hg5.size
        simp at hs5
        have HG5 := Lib.hid (HB4.out.trans (((Below.refl w4.heap.size w4).alloc (Nat.le_refl _) _ |>.grown hg5.gb (by simp) (fun k hk => by simp [Value.ownBlock] at hk; omega)).mono (by omega)))
        have HCB := Lib.hid (HB.out.kept (S' := fun k => k < w5.heap.size) (fun k hk => ⟨by omega, HG5.out.block k hk⟩))
        clear hown5 hg5
        go_wp2_with (at_builtin; refine wpList_own_src _ rfl _ _ 23 23 rfl w4.heap.size 5 i0 (.int .u8 0) 1 1 Try.underlying23 hi hz0 hz1 hz2 rfl (by decide) _ _ _ rfl hO5 _ _ _ rfl HCB.out.srcC ?d3 ?d4 ?d5 ?_)
        case d3 => unfold maxLen; omega
        case d4 => omega
        case d5 => omega
        intro v6 w6 hown6 hg6
        have hO6 : Own w6 w4.heap.size v6 (o ++ lb) := own_more' rfl hown6
        have hs6 := hg6.size
        have HG6 := Lib.hid (HG5.out.trans ((hg6.below hO5 (by omega)).mono (by omega)))
        obtain ⟨sa6, sc6, rfl⟩ := own_slice hO6
        have hdec := decode_any _ _ (o ++ lb) w6 (fun k hk => hk.2) (own_c hO6)
        rw [HMO.out, List.length_append] at hdec
        have HDEC := Lib.hid hdec
        clear hown6 hg6 hO5 hO6 hdec
        by_cases hlong : 1048576 < o.length + lb.length
        · have hd := HDEC.out
          rw [if_pos hlong] at hd
          have HD2 := Lib.hid hd
          have hlt : decide (1048576 < o.length + lb.length) = true := by simp; omega
          clear hd HDEC
          go_wp2_with fail
          refine HD2.out.mono ?_
          rintro e w7 ⟨rfl, hb7⟩
          have HB7 := Lib.hid (HG6.out.trans (hb7.mono (by omega)))
          have hs7 := hb7.size
          clear hb7
          go_wp2_with fail
          go_ret
          exact ⟨rfl, HB7.out.alloc (by omega) _⟩
        · have hlt : decide (1048576 < o.length + lb.length) = false := by simp; omega
          have hlt2 : decide ((1048576 : Int) < (o.length : Int) + (lb.length : Int)) = false := by simp; omega
          by_cases hm0 : lb = []
          · have hd := HDEC.out
            rw [if_neg hlong, if_pos hm0] at hd
            have HD2 := Lib.hid hd
            have hl0 : ((lb.length : Int) == 0) = true := by rw [hm0]; rfl
            clear hd HDEC hm0
            go_wp2_with fail
            refine HD2.out.mono ?_
            rintro e w7 ⟨v7, rfl, hx7, hb7⟩
            have HB7 := Lib.hid (HG6.out.trans (hb7.mono (by omega)))
            have hs7 := hb7.size
            generalize normV 16 (.mk k u b f l) = nx at *
            obtain ⟨nk, nu, nb, nf, nl⟩ := nx
            obtain ⟨xa1, xn1, xp1, xa2, xn2, xp2, rfl⟩ := hx7.shape
            clear hb7 hx7
            go_wp2_with fail
            go_ret
            exact ⟨rfl, HB7.out.alloc (by omega) _⟩
          · have hd := HDEC.out
            rw [if_neg hlong, if_neg hm0] at hd
            have HD2 := Lib.hid hd
            have hl0 : ((lb.length : Int) == 0) = false := by
              rw [beq_eq_false_iff_ne]
              intro h
              exact hm0 (List.eq_nil_of_length_eq_zero (by omega))
            clear hd HDEC hm0
            go_wp2_with fail
            refine HD2.out.mono ?_
            rintro e w7 ⟨rfl, hb7⟩
            have HB7 := Lib.hid (HG6.out.trans (hb7.mono (by omega)))
            have hs7 := hb7.size
            clear hb7
            go_wp2_with fail
            go_ret
            exact ⟨rfl, HB7.out.alloc (by omega) _⟩
end Go.Proofs.Ytgppadnbfggkcaa
