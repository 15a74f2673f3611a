/- The walk of same: two memories of one value. -/
import Derived.Test.YtgppadnbfggkcaaS
import Derived.Test.YtgppadnbfggkcaaK
import Derived.Deep.QuietTactic
import Derived.BigQuiet
import Derived.StillTailTactics
namespace Go.Proofs.Ytgppadnbfggkcaa
open Go.RowKit

def Deep : Nat → Val → Prop
  | 0, _ => False
  | n + 1, .mk _ _ _ _ l => ∀ x ∈ l, Deep n x
theorem BytesIn.drewN {B : Nat} {w : World} {v : Value} {l : List UInt8} (h : BytesIn B w v l) (n : Nat) : BytesIn B (w.drewN n) v l := by
  rcases h with h | ⟨a, cap, h1, h2, h3⟩
  · exact Or.inl h
  · exact Or.inr ⟨a, cap, h1, h2, fun j u hj => by simpa [go_sem] using h3 j u hj⟩
theorem below_drewN (B : Nat) (w : World) (n : Nat) : Below B w (w.drewN n) := ⟨rfl, rfl, rfl, Nat.le_refl _, fun _ _ => rfl⟩
def SameOk (n : Nat) : Prop := ∀ (B : Nat) (v v' : Value) (x : Val) (w : World), B ≤ w.heap.size → Deep n x → Reads B w n v x → Reads B w n v' x →
    Calls Try.prog 14 #[v, v'] w fun e w' => e = .returned (.bool true) ∧ Below w.heap.size w w'
set_option maxRecDepth 100000 in
set_option maxHeartbeats 2000000 in
theorem same_step (n : Nat) (hIH : SameOk n) : SameOk (n + 1) := by
  intro B v v' x w hB hD hR hR'
  obtain ⟨k, u, b, f, l⟩ := x
  obtain ⟨vb, vl, rfl, hu, hf, hb, hl, hI, hL⟩ := hR
  obtain ⟨vb', vl', rfl, _, _, _, _, hI', hL'⟩ := hR'
  obtain ⟨ba, bc, rfl⟩ := hI.shape
  obtain ⟨ba', bc', rfl⟩ := hI'.shape
  obtain ⟨la, lc, rfl⟩ := hL.shape
  obtain ⟨la', lc', rfl⟩ := hL'.shape
  have hb2 : Below w.heap.size w ((w.alloc (.cells #[.int .i64 k, .int .u64 u, .slice ba b.length bc, .float .f64 f, .slice la l.length lc] 27)).alloc (.cells #[.int .i64 k, .int .u64 u, .slice ba' b.length bc', .float .f64 f, .slice la' l.length lc'] 27)) :=
    ((Below.refl _ w).alloc (Nat.le_refl _) _).alloc (by simp) _
  have hcv := fun nq => bytes_string ((hI.below (hb2.mono hB)).drewN nq)
  have hcv' := fun nq => bytes_string ((hI'.below (hb2.mono hB)).drewN nq)
  have h19 := fb19
  have HH := Lib.hid hIH
  have HL := Lib.hid hL
  have HL' := Lib.hid hL'
  have HD := Lib.hid hD
  have HB2 := Lib.hid hb2
  clear hIH hL hL' hD hI hI' hu hf hb hb2
  go_enter Try.func14, Try.ntmps14
  go_wp2_with fail
  go_quiet (fail)
  go_wp2_with fail
  go_loopw [48] (fun i wr => ∃ j : Nat, j ≤ l.length ∧ i = .int .i64 j ∧ Below (w.heap.size + 2) ((w.alloc (.cells #[.int .i64 k, .int .u64 u, .slice ba b.length bc, .float .f64 f, .slice la l.length lc] 27)).alloc (.cells #[.int .i64 k, .int .u64 u, .slice ba' b.length bc', .float .f64 f, .slice la' l.length lc'] 27)) wr)
    (fun i _ => l.length - (intOf i).toNat)
  case atStart => exact ⟨0, Nat.zero_le _, rfl, below_drewN _ _ _⟩
  case round =>
    obtain ⟨j, hj, rfl, hbr⟩ := hrel
    by_cases hlt : j < l.length
    · have hs := hbr.size
      simp at hs
      have hbw := HB2.out.trans (hbr.mono (by omega))
      have b0 : wr.cell? ⟨w.heap.size, 4, none⟩ = some (.slice la l.length lc) := by
        rw [hbr.cell (p := ⟨w.heap.size, 4, none⟩) (by simp)]
        exact (five_cells ((Below.heap_alloc _ _ _ (by simp)).trans (new_five w #[.int .i64 k, .int .u64 u, .slice ba b.length bc, .float .f64 f, .slice la l.length lc] 27))).1.2.2.2.2
      have b1 : wr.cell? ⟨w.heap.size + 1, 4, none⟩ = some (.slice la' l.length lc') := by
        rw [hbr.cell (p := ⟨w.heap.size + 1, 4, none⟩) (by simp)]
        have h := (five_cells (new_five (w.alloc (.cells #[.int .i64 k, .int .u64 u, .slice ba b.length bc, .float .f64 f, .slice la l.length lc] 27)) #[.int .i64 k, .int .u64 u, .slice ba' b.length bc', .float .f64 f, .slice la' l.length lc'] 27)).1.2.2.2.2
        rw [show (w.alloc (.cells #[.int .i64 k, .int .u64 u, .slice ba b.length bc, .float .f64 f, .slice la l.length lc] 27)).heap.size = w.heap.size + 1 by simp] at h
        exact h
      rcases HL.out with ⟨_, _, _, h0⟩ | ⟨g, o, cap, hv, hg, hc⟩
      · rw [h0] at hlt; simp at hlt
      rcases HL'.out with ⟨_, _, _, h0⟩ | ⟨g', o', cap', hv', hg', hc'⟩
      · rw [h0] at hlt; simp at hlt
      obtain ⟨x', hx'⟩ : ∃ x', l[j]? = some x' := ⟨_, List.getElem?_eq_getElem hlt⟩
      have hdx : Deep n x' := HD.out x' (List.mem_of_getElem? hx')
      obtain ⟨c0, c1, c2, c3, c4, e0, e1, e2, e3, e4, hR⟩ := hc j x' hx'
      obtain ⟨c0', c1', c2', c3', c4', e0', e1', e2', e3', e4', hR'⟩ := hc' j x' hx'
      injection hv with hv1 _ hv2
      injection hv' with hv1' _ hv2'
      subst hv1 hv2 hv1' hv2'
      have hbB := hbw.mono hB
      have d0 := (hbB.cell (p := ⟨g, o + j * 5, none⟩) hg).trans e0
      have d1 := (hbB.cell (p := ⟨g, o + j * 5 + 1, none⟩) hg).trans e1
      have d2 := (hbB.cell (p := ⟨g, o + j * 5 + 2, none⟩) hg).trans e2
      have d3 := (hbB.cell (p := ⟨g, o + j * 5 + 3, none⟩) hg).trans e3
      have d4 := (hbB.cell (p := ⟨g, o + j * 5 + 4, none⟩) hg).trans e4
      have d0' := (hbB.cell (p := ⟨g', o' + j * 5, none⟩) hg').trans e0'
      have d1' := (hbB.cell (p := ⟨g', o' + j * 5 + 1, none⟩) hg').trans e1'
      have d2' := (hbB.cell (p := ⟨g', o' + j * 5 + 2, none⟩) hg').trans e2'
      have d3' := (hbB.cell (p := ⟨g', o' + j * 5 + 3, none⟩) hg').trans e3'
      have d4' := (hbB.cell (p := ⟨g', o' + j * 5 + 4, none⟩) hg').trans e4'
      have hwc := fun nq => HH.out B _ _ x' (wr.drewN nq) (by simp; omega) hdx (Reads.below (hbB.trans (below_drewN _ _ nq)) n _ _ hR) (Reads.below (hbB.trans (below_drewN _ _ nq)) n _ _ hR')
      have HC := Lib.hid hwc
      have HBR := Lib.hid hbr
      clear e0 e1 e2 e3 e4 e0' e1' e2' e3' e4' hR hR' hc hc' hwc hbr hbw hbB hx' hdx
      go_wp2_with fail
      go_still_tail 10, (by kernel_rfl)
      obtain ⟨wd, hwd⟩ : ∃ wd, wd = wr.drewN 1 := ⟨_, rfl⟩
      change wpList _ _ _ _ _ (wr.drewN 1)
      have HC1 := Lib.hid (HC.out 1)
      have HWD := Lib.hid (below_drewN (w.heap.size + 2) wr 1)
      have hwds : wd.heap.size = wr.heap.size := by rw [hwd]; rfl
      rw [← hwd] at HC1 HWD ⊢
      have hwds2 : wr.heap.size ≤ wd.heap.size := by omega
      clear hwd hwds HC b0 b1 d0 d1 d2 d3 d4 d0' d1' d2' d3' d4'
      go_wp2_with fail
      refine HC1.out.mono ?_
      rintro e w2 ⟨rfl, hb2⟩
      have HBR2 := Lib.hid ((HBR.out.trans HWD.out).trans (hb2.mono (by omega)))
      clear hb2
      go_wp2_with fail
      go_roundw
      case rel => exact ⟨j + 1, by omega, by go_num, HBR2.out⟩
      case measure => simp [intOf]; omega
    · have hjl : j = l.length := by omega
      subst hjl
      have HBR := Lib.hid hbr
      clear hbr
      go_wp2_with fail
      go_ret
      exact ⟨rfl, HB2.out.trans (HBR.out.mono (by omega))⟩
theorem same_ok : ∀ n, SameOk n
  | 0 => fun _ _ _ _ _ _ hD => (hD.elim)
  | n + 1 => same_step n (same_ok n)
theorem listD_all {g : List UInt8 → Except Int (Val × List UInt8)} {P : Val → Prop} (hg : ∀ {l x r}, g l = .ok (x, r) → P x) : ∀ (m : Nat) (l : List UInt8) {xs : List Val} {r : List UInt8}, listD g m l = .ok (xs, r) → ∀ x ∈ xs, P x
  | 0, l, xs, r, h => by simp only [listD] at h; injection h with h; injection h with h1 h2; subst h1; simp
  | m + 1, l, xs, r, h => by
    simp only [listD] at h
    cases hl : g l with
    | error c => rw [hl] at h; cases h
    | ok y =>
      obtain ⟨x, r1⟩ := y
      rw [hl] at h
      simp only at h
      cases hm : listD g m r1 with
      | error c => rw [hm] at h; cases h
      | ok z =>
        obtain ⟨ys, r2⟩ := z
        rw [hm] at h
        injection h with h
        injection h with h1 h2
        subst h1 h2
        intro y hy
        rcases List.mem_cons.1 hy with rfl | hy
        · exact hg hl
        · exact listD_all hg m r1 hm y hy
theorem valD_deep : ∀ {n : Nat} {l : List UInt8} {x : Val} {r : List UInt8}, valD n l = .ok (x, r) → Deep n x
  | 0, _, _, _, h => by simp only [valD] at h; cases h
  | n + 1, l, x, r, h => by
    simp only [valD] at h
    cases hh : headD l with
    | error c => rw [hh] at h; cases h
    | ok y =>
      obtain ⟨k, m, r1⟩ := y
      rw [hh] at h
      simp only at h
      split at h
      · injection h with h; injection h with h _; subst h; intro y hy; simp at hy
      split at h
      · split at h
        · cases h
        · injection h with h; injection h with h _; subst h; intro y hy; simp at hy
      split at h
      · cases hf : floatD m r1 with
        | error c => rw [hf] at h; cases h
        | ok z =>
          obtain ⟨f, r2⟩ := z
          rw [hf] at h
          injection h with h; injection h with h _; subst h; intro y hy; simp at hy
      · cases hd : listD (valD n) m r1 with
        | error c => rw [hd] at h; cases h
        | ok z =>
          obtain ⟨xs, r2⟩ := z
          rw [hd] at h
          injection h with h; injection h with h _; subst h
          exact listD_all (fun e => valD_deep e) m r1 hd
end Go.Proofs.Ytgppadnbfggkcaa
