/- The walk of write: lists, and whole. -/
import Derived.Test.YtgppadnbfggkcaaD
namespace Go.Proofs.Ytgppadnbfggkcaa
open Go.RowKit

theorem run_storeF (w : World) (a : Addr) (b : Nat) (m : Mode) : (store a (.float .f64 b) m).run Try.prog w = stored Try.prog w a (.float .f64 b) m := run_store Try.prog w a _ m rfl
theorem box_cell (w : World) (c0 c1 c2 c3 c4 : Value) (t : TypeId) : (w.alloc (.cells #[c0, c1, c2, c3, c4] t)).cell? ⟨w.heap.size, 4, none⟩ = some c4 := by
  rw [World.cell?_alloc_mark]; rfl
theorem Grew.box {B : Nat} {w w1 : World} {v v1 : Value} {o : List UInt8} {c0 c1 c2 c3 c4 : Value} {t : TypeId} (h : Grew (w.alloc (.cells #[c0, c1, c2, c3, c4] t)) w1 v v1) (hO : Own w B v o) : w1.cell? ⟨w.heap.size, 4, none⟩ = some c4 := by
  rw [h.cell (p := ⟨w.heap.size, 4, none⟩) (by simp) (fun e => ?_)]
  · exact box_cell w c0 c1 c2 c3 c4 t
  · have := (World.ownsRow.lt hO _ e).2
    simp at this
set_option maxRecDepth 100000 in
set_option maxHeartbeats 2000000 in
theorem write_list (n : Nat) (hIH : WriteOk n) (B : Nat) (v vb vl : Value) (o : List UInt8) (l : List Val) (u f a : Nat) (w : World) (ha : a + (n + 1) = 16) (hl : l.length ≤ 1048576) (ho : o.length ≤ 1048576 + 16 * a) (hB : B ≤ w.heap.size) (hO : Own w B v o)
    (hI : ListIn B w (Reads B w n) vl l) :
    Calls Try.prog 22 #[v, .agg #[.int .i64 3, .int .u64 u, vb, .float .f64 f, vl], .int .i64 a] w (EncGives B w v (capE (foldE (encV n) l (o ++ headB 3 l.length)))) := by
  obtain ⟨sa, sc, rfl⟩ := hI.shape
  have hst := run_storeF
  have HO := Lib.hid hO
  have HI := Lib.hid hI
  have HL := Lib.hid (headB_len 3 l.length (by omega))
  have HH := Lib.hid hIH
  generalize hr : o ++ headB 3 l.length = r
  have HRR := Lib.hid hr
  generalize hx : capE (foldE (encV n) l r) = x
  have HX := Lib.hid hx
  clear hO hI hIH hr hx
  go_enter Try.func22, Try.ntmps22
  go_wp2_with fail
  have hB1 : B ≤ (w.alloc (.cells #[.int .i64 3, .int .u64 u, vb, .float .f64 f, .slice sa l.length sc] 27)).heap.size := by simp; omega
  refine (writeHead_any B 3 l.length v o _ (by omega) (by omega) (by omega) hB1 (World.ownsRow.alloc HO.out _)).mono ?_
  rintro e w1 ⟨v1, rfl, hown, hg1⟩
  have hrl : r.length ≤ 1048576 + 16 * (a + 1) := by have hq := congrArg List.length HRR.out; have := HL.out; simp only [List.length_append] at hq; omega
  rw [HRR.out] at hown
  have hbox := hg1.box HO.out
  have HV := Lib.hid hown
  have HG := Lib.hid ((Grew.alloc w v _).trans hg1)
  clear hown hg1
  go_wp2_with fail
  clear hbox
  go_loopw [0, 44] (fun vo i wr => ∃ (k : Nat) (q : List UInt8), k ≤ l.length ∧ i = .int .i64 k ∧ q.length ≤ 1048576 + 16 * (a + 1) ∧ Own wr B vo q ∧ Grew w wr v vo ∧ foldE (encV n) (l.drop k) q = foldE (encV n) l r)
    (fun _ i _ => l.length - (intOf i).toNat)
  case atStart => exact ⟨0, r, Nat.zero_le _, rfl, hrl, HV.out, HG.out, rfl⟩
  case round =>
    obtain ⟨k, q, hk, rfl, hq, hown, hbr, hfo⟩ := hrel
    have HR := Lib.hid hbr
    have HF := Lib.hid hfo
    have hsz := hbr.size
    have hbw := hbr.below HO.out hB
    clear hbr hfo HV HG
    by_cases hlt : k < l.length
    · rcases HI.out with ⟨_, _, _, h0⟩ | ⟨g, o2, cap, hv, hg, hc⟩
      · rw [h0] at hlt; simp at hlt
      · obtain ⟨x', hx'⟩ : ∃ x', l[k]? = some x' := ⟨_, List.getElem?_eq_getElem hlt⟩
        have HXK := Lib.hid hx'
        obtain ⟨c0, c1, c2, c3, c4, e0, e1, e2, e3, e4, hR⟩ := hc k x' hx'
        injection hv with hv1 _ hv2
        subst hv1 hv2
        have d0 := (hbw.cell (p := ⟨g, o2 + k * 5, none⟩) hg).trans e0
        have d1 := (hbw.cell (p := ⟨g, o2 + k * 5 + 1, none⟩) hg).trans e1
        have d2 := (hbw.cell (p := ⟨g, o2 + k * 5 + 2, none⟩) hg).trans e2
        have d3 := (hbw.cell (p := ⟨g, o2 + k * 5 + 3, none⟩) hg).trans e3
        have d4 := (hbw.cell (p := ⟨g, o2 + k * 5 + 4, none⟩) hg).trans e4
        obtain ⟨k', u', b', f', l'⟩ := x'
        obtain ⟨a1, n1, p1, a2, n2, p2, hsh⟩ := hR.shape
        have hsh2 : [c0, c1, c2, c3, c4] = [.int .i64 k', .int .u64 u', .slice a1 n1 p1, .float .f64 f', .slice a2 n2 p2] := by
          injection hsh with hsh; injection hsh
        injection hsh2 with s0 hsh2
        injection hsh2 with s1 hsh2
        injection hsh2 with s2 hsh2
        injection hsh2 with s3 hsh2
        injection hsh2 with s4 hsh2
        subst s0 s1 s2 s3 s4
        have HRd := Lib.hid hR
        have HOw := Lib.hid hown
        have HBW := Lib.hid hbw
        clear e0 e1 e2 e3 e4 hR hown hbw hc hsh hsh2 hx'
        have hwc := HH.out B u0 _ (.mk k' u' b' f' l') q (a + 1) (wr.alloc (.cells #[.int .i64 k', .int .u64 u', .slice a1 n1 p1, .float .f64 f', .slice a2 n2 p2] 27)) (by omega) hq (by simp; omega) (World.ownsRow.alloc HOw.out _) (Reads.below (HBW.out.alloc (by omega) _) n _ _ HRd.out)
        have e : ((a + 1 : Nat) : Int) = (a : Int) + 1 := by omega
        rw [e] at hwc
        have HC := Lib.hid hwc
        have hdk : l.drop k = Val.mk k' u' b' f' l' :: l.drop (k + 1) := by
          rw [List.drop_eq_getElem_cons hlt]
          have := HXK.out
          rw [List.getElem?_eq_getElem hlt] at this
          injection this with this
          rw [this]
        have hfk := HF.out
        rw [hdk] at hfk
        simp only [foldE] at hfk
        clear hwc e hdk
        cases hy : encV n q (.mk k' u' b' f' l') with
        | error c =>
          rw [hy] at hfk HC
          have hx := HX.out
          rw [← hfk] at hx
          simp only [capE] at hx
          clear HX HF hfk hy
          subst hx
          go_wp2_with fail
          refine HC.out.mono ?_
          rintro e w2 ⟨rfl, hb2, hs2⟩
          go_wp2_with fail
          have hb3 := (HBW.out.alloc (by omega) _).trans hb2
          exact ⟨rfl, rfl, hb3, hb3.size⟩
        | ok q' =>
          rw [hy] at hfk HC
          have HFK := Lib.hid hfk
          have hq2 := enc_len hy
          clear hfk hy HF
          go_wp2_with fail
          refine HC.out.mono ?_
          rintro e w2 ⟨v2, rfl, hown2, hg2⟩
          have HG2 := Lib.hid (HR.out.trans ((Grew.alloc _ _ _).trans hg2))
          have HO2 := Lib.hid hown2
          clear hg2 hown2
          go_wp2_with fail
          go_roundw
          case rel => exact ⟨k + 1, q', by omega, by go_num, by omega, HO2.out, HG2.out, HFK.out⟩
          case measure => simp [intOf]; omega
    · have hd : l.drop k = [] := List.drop_eq_nil_of_le (by omega)
      have hx := HX.out
      rw [← HF.out, hd] at hx
      simp only [foldE] at hx
      clear HX HF hd
      obtain ⟨sa2, sc2, rfl⟩ := own_slice hown
      have HOw := Lib.hid hown
      clear hown hbw
      by_cases hlong : 1048576 < q.length
      · rw [cap_long hlong] at hx
        subst hx
        go_wp2_with fail
        exact ⟨rfl, rfl, HR.out.below HO.out hB, HR.out.size⟩
      · rw [cap_ok hlong] at hx
        subst hx
        go_wp2_with fail
        go_ret
        exact ⟨_, rfl, HOw.out, HR.out⟩
theorem write_ok : ∀ n, WriteOk n
  | 0 => write_deep
  | n + 1 => by
    intro B v xv x o a w ha ho hB hO hR
    obtain ⟨k, u, b, f, l⟩ := x
    obtain ⟨vb, vl, rfl, hu, hf, hb, hl, hI, hL⟩ := hR
    obtain ⟨a1, c1, rfl⟩ := hI.shape
    by_cases h0 : k = 0
    · subst h0
      rw [enc_num]; exact write_num B v _ _ o u f a w (by omega) hu (by omega) hB hO
    by_cases h1 : k = 1
    · subst h1
      rw [enc_bytes]
      by_cases hlong : 1048576 < b.length
      · omega
      · rw [if_neg hlong]; exact write_bytes B v _ _ o b u f a w (by omega) hb (by omega) hB hO hI
    by_cases h2 : k = 2
    · subst h2
      rw [enc_real]; exact write_real B v _ _ o u f a w (by omega) hf (by omega) hB hO
    by_cases h3 : k = 3
    · subst h3
      rw [enc_list]; exact write_list n (write_ok n) B v _ vl o l u f a w ha hl ho hB hO hL
    · rw [enc_other _ _ _ _ _ _ _ h0 h1 h2 h3]
      exact write_other B v _ vl k u f a w (by omega) hB (by simpa using h0) (by simpa using h1) (by simpa using h2) (by simpa using h3)
end Go.Proofs.Ytgppadnbfggkcaa
