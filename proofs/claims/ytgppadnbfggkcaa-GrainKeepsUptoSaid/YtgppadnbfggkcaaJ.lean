/- The walk of the reference's write: lists, and whole. -/
import Derived.Test.YtgppadnbfggkcaaI
namespace Go.Proofs.Ytgppadnbfggkcaa
open Go.RowKit

theorem fold_err {n : Nat} (h : ∀ {o x c}, encV n o x = .error c → c ≠ 0) : ∀ (l : List Val) (o : List UInt8) (c : Int), foldE (encV n) l o = .error c → c ≠ 0
  | [], o, c, e => by simp only [foldE] at e; cases e
  | x :: l, o, c, e => by
    simp only [foldE] at e
    cases hy : encV n o x with
    | ok q => rw [hy] at e; exact fold_err h l q c e
    | error d => rw [hy] at e; injection e with e; subst e; exact h hy
theorem enc_err : ∀ {n : Nat} {o : List UInt8} {x : Val} {c : Int}, encV n o x = .error c → c ≠ 0
  | 0, _, _, _, h => by simp only [encV] at h; injection h with h; subst h; decide
  | n + 1, o, .mk k u b f l, c, h => by
    simp only [encV] at h
    have hcap : ∀ {r : Except Int (List UInt8)}, (∀ d, r = .error d → d ≠ 0) → capE r = .error c → c ≠ 0 := by
      intro r hr e
      cases r with
      | error d => simp only [capE] at e; injection e with e; subst e; exact hr d rfl
      | ok q =>
        simp only [capE] at e
        split at e
        · injection e with e; subst e; decide
        · cases e
    refine hcap (fun d hd => ?_) h
    split at hd
    · cases hd
    split at hd
    · split at hd
      · injection hd with hd; subst hd; decide
      · cases hd
    split at hd
    · cases hd
    split at hd
    · exact fold_err (fun e => enc_err e) l _ d hd
    · injection hd with hd; subst hd; decide
set_option maxRecDepth 100000 in
set_option maxHeartbeats 2000000 in
theorem rwrite_list (n : Nat) (hIH : RWriteOk n) (B : Nat) (v vb vl : Value) (o : List UInt8) (l : List Val) (u f a : Nat) (w : World) (ha : a + (n + 1) = 16) (hl : l.length ≤ 1048576) (ho : o.length ≤ 1048576 + 16 * a) (hB : B ≤ w.heap.size) (hO : Own w B v o)
    (hI : ListIn B w (Reads B w n) vl l) :
    Calls Try.prog 23 #[v, .agg #[.int .i64 3, .int .u64 u, vb, .float .f64 f, vl], .int .i64 (a + 1 : Nat)] w (RGives B w v (capE (foldE (encV n) l (o ++ headB 3 l.length)))) := by
  obtain ⟨i0, hi, hz0, hz1, hz2⟩ := info_parts Try.info5
  obtain ⟨sa, sc, rfl⟩ := hI.shape
  have HO := Lib.hid hO
  have HI := Lib.hid hI
  have HL := Lib.hid (headB_len 3 l.length (by omega))
  have HC := Lib.hid (fun w => rhead_any 3 l.length w (by omega) (by omega))
  have HH := Lib.hid hIH
  generalize headB 3 l.length = hd at *
  generalize hr : o ++ hd = r
  have HRR := Lib.hid hr
  generalize hx : capE (foldE (encV n) l r) = x
  have HX := Lib.hid hx
  clear hO hI hIH hr hx
  go_enter Try.func23, Try.ntmps23
  go_wp2_with fail
  refine (HC.out _).mono ?_
  rintro e w1 ⟨rfl, hb1⟩
  have hg0 : Grew (w.alloc (.cells #[.int .i64 3, .int .u64 u, vb, .float .f64 f, .slice sa l.length sc] 27)) w1 v v := Grew.ofBelow hb1
  have hO1 : Own w1 B v o := Own.below (World.ownsRow.alloc HO.out _) hb1
  go_wp2_with (at_builtin; refine wpList_own_src _ rfl _ _ 23 9 rfl B 5 i0 (.int .u8 0) 1 1 Try.underlying23 hi hz0 hz1 hz2 rfl (by decide) _ _ _ rfl hO1 _ _ _ rfl (src_string _ _) ?c3 ?c4 ?c5 ?_)
  case c3 => have := HL.out; unfold maxLen; omega
  case c4 => have := HL.out; omega
  case c5 => have := hg0.size; simp at this; omega
  intro v2 w2 hown2 hg2
  have hrl : r.length ≤ 1048576 + 16 * (a + 1) := by have hq := congrArg List.length HRR.out; have := HL.out; simp only [List.length_append] at hq; omega
  have HV : Hid (Own w2 B v2 r) := Lib.hid (by rw [← HRR.out]; exact own_more' rfl hown2)
  have HG := Lib.hid (hg0.trans hg2)
  clear hown2 hg2 hO1 hg0 hb1
  go_wp2_with fail
  go_loopw [0, 11] (fun vo i wr => ∃ (k : Nat) (q : List UInt8), k ≤ l.length ∧ i = .int .i64 k ∧ q.length ≤ 1048576 + 16 * (a + 1) ∧ Own wr B vo q ∧ Grew (w.alloc (.cells #[.int .i64 3, .int .u64 u, vb, .float .f64 f, .slice sa l.length sc] 27)) wr v vo ∧ foldE (encV n) (l.drop k) q = foldE (encV n) l r)
    (fun _ i _ => l.length - (intOf i).toNat)
  case atStart => exact ⟨0, r, Nat.zero_le _, rfl, hrl, HV.out, HG.out, rfl⟩
  case round =>
    obtain ⟨k, q, hk, rfl, hq, hown, hbr, hfo⟩ := hrel
    have hbox := hbr.boxAt HO.out 4 rfl
    have hbr2 := (Grew.alloc w v _).trans hbr
    have HB := Lib.hid hbr
    have HR := Lib.hid hbr2
    have HF := Lib.hid hfo
    have hsz := hbr2.size
    have hbw := hbr2.below HO.out hB
    clear hbr hbr2 hfo HV HG
    by_cases hlt : k < l.length
    · rcases HI.out with ⟨_, _, _, h0⟩ | ⟨g, o2, cap, hv, hg, hc⟩
      · rw [h0] at hlt; simp at hlt
      · obtain ⟨x', hx'⟩ : ∃ x', l[k]? = some x' := ⟨_, List.getElem?_eq_getElem hlt⟩
        have HXK := Lib.hid hx'
        obtain ⟨c0, c1, c2, c3, c4, e0, e1, e2, e3, e4, hR⟩ := hc k x' hx'
        injection hv with hv1 _ hv2
        subst hv1 hv2
        have d0 := (hbw.cell (p := ⟨g, o2 + k * 5, none⟩) hg).trans e0
        have d1 := (hbw.cell (p := ⟨g, o2 + k * 5 + 1, none⟩) hg).trans e1
        have d2 := (hbw.cell (p := ⟨g, o2 + k * 5 + 2, none⟩) hg).trans e2
        have d3 := (hbw.cell (p := ⟨g, o2 + k * 5 + 3, none⟩) hg).trans e3
        have d4 := (hbw.cell (p := ⟨g, o2 + k * 5 + 4, none⟩) hg).trans e4
        obtain ⟨k', u', b', f', l'⟩ := x'
        obtain ⟨a1, n1, p1, a2, n2, p2, hsh⟩ := hR.shape
        have hsh2 : [c0, c1, c2, c3, c4] = [.int .i64 k', .int .u64 u', .slice a1 n1 p1, .float .f64 f', .slice a2 n2 p2] := by
          injection hsh with hsh; injection hsh
        injection hsh2 with s0 hsh2
        injection hsh2 with s1 hsh2
        injection hsh2 with s2 hsh2
        injection hsh2 with s3 hsh2
        injection hsh2 with s4 hsh2
        subst s0 s1 s2 s3 s4
        have HOw := Lib.hid hown
        have HBW := Lib.hid hbw
        have hwc := HH.out B u0 _ (.mk k' u' b' f' l') q (a + 1) wr (by omega) hq (by omega) hown (Reads.below hbw n _ _ hR)
        have e : ((a + 1 + 1 : Nat) : Int) = (a : Int) + 1 + 1 := by omega
        rw [e] at hwc
        have HC2 := Lib.hid hwc
        have hdk : l.drop k = Val.mk k' u' b' f' l' :: l.drop (k + 1) := by
          rw [List.drop_eq_getElem_cons hlt]
          have := HXK.out
          rw [List.getElem?_eq_getElem hlt] at this
          injection this with this
          rw [this]
        have hfk := HF.out
        rw [hdk] at hfk
        simp only [foldE] at hfk
        clear hwc e hdk e0 e1 e2 e3 e4 hR hown hbw hc hsh hsh2 hx'
        cases hy : encV n q (.mk k' u' b' f' l') with
        | error c =>
          have hc0 : (c == 0) = false := by rw [beq_eq_false_iff_ne]; exact enc_err hy
          rw [hy] at hfk HC2
          have hx := HX.out
          rw [← hfk] at hx
          simp only [capE] at hx
          clear HX HF hfk hy
          subst hx
          go_wp2_with fail
          refine HC2.out.mono ?_
          rintro e w2 ⟨rfl, hb2, hs2⟩
          go_wp2_with fail
          go_ret2
          have hb3 := HBW.out.trans hb2
          exact ⟨rfl, hb3, hb3.size⟩
        | ok q' =>
          rw [hy] at hfk HC2
          have HFK := Lib.hid hfk
          have hq2 := enc_len hy
          clear hfk hy HF
          go_wp2_with fail
          refine HC2.out.mono ?_
          rintro e w2 ⟨v2, rfl, hown2, hg2⟩
          have HG2 := Lib.hid (HB.out.trans hg2)
          have HO2 := Lib.hid hown2
          clear hg2 hown2
          go_wp2_with fail
          go_roundw
          case rel => exact ⟨k + 1, q', by omega, by go_num, by omega, HO2.out, HG2.out, HFK.out⟩
          case measure => simp [intOf]; omega
    · have hd : l.drop k = [] := List.drop_eq_nil_of_le (by omega)
      have hx := HX.out
      rw [← HF.out, hd] at hx
      simp only [foldE] at hx
      clear HX HF hd
      obtain ⟨sa2, sc2, rfl⟩ := own_slice hown
      have HOw := Lib.hid hown
      clear hown hbw
      by_cases hlong : 1048576 < q.length
      · rw [cap_long hlong] at hx
        subst hx
        go_wp2_with fail
        go_ret2
        exact ⟨rfl, HR.out.below HO.out hB, HR.out.size⟩
      · rw [cap_ok hlong] at hx
        subst hx
        go_wp2_with fail
        go_ret2
        exact ⟨_, rfl, HOw.out, HR.out⟩
theorem rwrite_ok : ∀ n, RWriteOk n
  | 0 => rwrite_deep
  | n + 1 => by
    intro B v xv x o a w ha ho hB hO hR
    obtain ⟨k, u, b, f, l⟩ := x
    obtain ⟨vb, vl, rfl, hu, hf, hb, hl, hI, hL⟩ := hR
    by_cases h0 : k = 0
    · subst h0
      rw [enc_num]; exact rwrite_num B v _ _ o u f a w (by omega) hu (by omega) hB hO
    by_cases h1 : k = 1
    · subst h1
      rw [enc_bytes, if_neg (by omega)]; exact rwrite_bytes B v _ _ o b u f a w (by omega) hb (by omega) hB hO hI
    by_cases h2 : k = 2
    · subst h2
      rw [enc_real]; exact rwrite_real B v _ _ o u f a w (by omega) hf (by omega) hB hO
    by_cases h3 : k = 3
    · subst h3
      rw [enc_list]; exact rwrite_list n (rwrite_ok n) B v _ vl o l u f a w ha hl ho hB hO hL
    · rw [enc_other _ _ _ _ _ _ _ h0 h1 h2 h3]
      exact rwrite_other B v vb vl k u f a w (by omega) hB (by simpa using h0) (by simpa using h1) (by simpa using h2) (by simpa using h3)
end Go.Proofs.Ytgppadnbfggkcaa
