/- bytes.Clone; what is read: plainly, and in memory. -/
import Derived.Test.YtgppadnbfggkcaaO
namespace Go.Proofs.Ytgppadnbfggkcaa
open Go.RowKit

theorem own_c {w : World} {B : Nat} {v : Value} {l : List UInt8} (h : Own w B v l) : BytesC (fun k => B ≤ k ∧ k < w.heap.size) w v l := by
  rcases h.2 with ⟨rfl, hn⟩ | ⟨g, cap, cur, rfl, hB, hg, hnc, hcm, _⟩
  · exact Or.inl ⟨rfl, List.length_eq_zero_iff.1 hn⟩
  · exact Or.inr ⟨_, cap, rfl, hnc, hcm, Or.inr ⟨hB, (Array.getElem?_eq_some_iff.1 hg).1⟩, World.ownsRow.cells h rfl⟩
theorem BytesC.srcC {S : Nat → Prop} {w : World} {v : Value} {l : List UInt8} (h : BytesC S w v l) : Src Try.prog 1 23 v l.length (bv l) w := by
  rcases h with ⟨rfl, rfl⟩ | ⟨a, cap, rfl, _, _, _, h3⟩
  · exact Src.ofNil w Try.underlying23 0
  · exact Src.ofSlice w Try.underlying23 a _ cap _ (by rw [bv_len]; omega) h3 (bv_one l)
theorem own_empty (w : World) : Own (w.alloc (.cells #[] 5)) w.heap.size (.slice (some ⟨w.heap.size, 0, none⟩) 0 0) [] := by
  refine ⟨rfl, Or.inr ⟨w.heap.size, 0, #[], rfl, Nat.le_refl _, ?_, Nat.le_refl _, by unfold maxLen; omega, rfl, rfl⟩⟩
  show (w.heap.push _)[w.heap.size]? = _
  rw [Array.getElem?_push, if_pos rfl]
theorem run_eql_nil (w : World) (a : Option Addr) (l c : Nat) : (binOp .eql 23 (.slice a l c) (.slice none 0 0)).run Try.prog w = .ok (.bool a.isNone) w := by
  have h := run_equal_slice_nil (P := Try.prog) (w := w) 23 5 a l c Try.underlying23
  simp [binOp, h]
set_option maxRecDepth 100000 in
set_option maxHeartbeats 1000000 in
theorem clone_any (S : Nat → Prop) (v : Value) (l : List UInt8) (w : World) (hl : l.length ≤ 1048576) (hS : ∀ k, S k → k < w.heap.size) (hb : BytesC S w v l) :
    Calls Try.prog 37 #[v] w fun e w' => ∃ v', e = .returned v' ∧ BytesC (fun k => w.heap.size ≤ k ∧ k < w'.heap.size) w' v' l ∧ Below w.heap.size w w' := by
  obtain ⟨i0, hi, hz0, hz1, hz2⟩ := info_parts Try.info5
  have hb2 : BytesC S (w.alloc (.cells #[] 5)) v l := hb.kept (fun k hk => ⟨hk, Below.heap_alloc w _ k (hS k hk)⟩)
  have hq := run_eql_nil
  rcases hb with ⟨rfl, rfl⟩ | ⟨a, cap, rfl, hcap, hcm, hSa, hcells⟩
  · clear hb2
    go_enter Try.func37, Try.ntmps37
    go_wp2_with fail
    go_ret
    exact ⟨_, rfl, Or.inl ⟨rfl, rfl⟩, Below.refl _ _⟩
  · have HB := Lib.hid hb2
    have HO := Lib.hid (own_empty w)
    clear hcells hb2
    go_enter Try.func37, Try.ntmps37
    go_wp2_with (at_builtin; refine wpList_own_src _ rfl _ _ 23 23 rfl w.heap.size 5 i0 (.int .u8 0) 1 1 Try.underlying23 hi hz0 hz1 hz2 rfl (by decide) _ _ _ rfl HO.out _ _ _ rfl HB.out.srcC ?c3 ?c4 ?c5 ?_)
    case c3 => simp; unfold maxLen; omega
    case c4 => simp; omega
    case c5 => simp
    intro v2 w2 hown2 hg2
    have hown : Own w2 w.heap.size v2 l := own_more' (l := []) (by simp) hown2
    have hgr := ((Grew.alloc w (.slice (some ⟨w.heap.size, 0, none⟩) 0 0) _).trans hg2)
    have hbl : Below w.heap.size w w2 := (Below.refl _ w).grown hgr.gb (Nat.le_refl _) (fun k hk => by simp [Value.ownBlock] at hk; omega)
    have HV := Lib.hid (own_c hown)
    have HBL := Lib.hid hbl
    clear hown hgr hbl hown2 hg2
    go_wp2_with fail
    go_ret
    exact ⟨v2, rfl, HV.out, HBL.out⟩
/-- The memory of a value, so many levels deep; all of it in blocks of S. -/
def ListS (S : Nat → Prop) (w : World) (R : Value → Val → Prop) (v : Value) (l : List Val) : Prop :=
  (v = .slice none 0 0 ∧ l = []) ∨ ∃ g o cap, v = .slice (some ⟨g, o, none⟩) l.length cap ∧ l.length ≤ cap ∧ cap ≤ maxLen ∧ S g ∧
    ∀ j x, l[j]? = some x → ∃ c0 c1 c2 c3 c4, w.cell? ⟨g, o + j * 5, none⟩ = some c0 ∧ w.cell? ⟨g, o + j * 5 + 1, none⟩ = some c1 ∧ w.cell? ⟨g, o + j * 5 + 2, none⟩ = some c2 ∧
      w.cell? ⟨g, o + j * 5 + 3, none⟩ = some c3 ∧ w.cell? ⟨g, o + j * 5 + 4, none⟩ = some c4 ∧ R (.agg #[c0, c1, c2, c3, c4]) x
def ReadsS (S : Nat → Prop) (w : World) : Nat → Value → Val → Prop
  | 0, v, .mk k u _ f _ => ∃ a1 n1 c1 a2 n2 c2, v = .agg #[.int .i64 k, .int .u64 u, .slice a1 n1 c1, .float .f64 f, .slice a2 n2 c2]
  | n + 1, v, .mk k u b f l => ∃ vb vl, v = .agg #[.int .i64 k, .int .u64 u, vb, .float .f64 f, vl] ∧ u < 18446744073709551616 ∧ f < 18446744073709551616 ∧
    b.length ≤ 1048576 ∧ l.length ≤ 1048576 ∧ BytesC S w vb b ∧ ListS S w (ReadsS S w n) vl l
theorem ReadsS.kept {S S' : Nat → Prop} {w w' : World} (hk : ∀ k, S k → S' k ∧ w'.heap[k]? = w.heap[k]?) : ∀ (n : Nat) (v : Value) (x : Val), ReadsS S w n v x → ReadsS S' w' n v x
  | 0, v, .mk .., h => h
  | n + 1, v, .mk .., h => by
    obtain ⟨vb, vl, h1, h2, h3, h4, h5, h6, h7⟩ := h
    refine ⟨vb, vl, h1, h2, h3, h4, h5, h6.kept hk, ?_⟩
    rcases h7 with h7 | ⟨g, o, cap, e1, e2, e3, e4, e5⟩
    · exact Or.inl h7
    · refine Or.inr ⟨g, o, cap, e1, e2, e3, (hk g e4).1, fun j x hj => ?_⟩
      obtain ⟨c0, c1, c2, c3, c4, d0, d1, d2, d3, d4, hr⟩ := e5 j x hj
      have hc : ∀ i, w'.cell? ⟨g, i, none⟩ = w.cell? ⟨g, i, none⟩ := fun i => World.cell?_of_block (w := w) (hk g e4).2
      exact ⟨c0, c1, c2, c3, c4, (hc _).trans d0, (hc _).trans d1, (hc _).trans d2, (hc _).trans d3, (hc _).trans d4, ReadsS.kept hk n _ _ hr⟩
theorem ReadsS.into {S : Nat → Prop} {B : Nat} {w : World} (hS : ∀ k, S k → k < B) : ∀ (n : Nat) (v : Value) (x : Val), ReadsS S w n v x → Reads B w n v x
  | 0, v, .mk .., h => h
  | n + 1, v, .mk .., h => by
    obtain ⟨vb, vl, h1, h2, h3, h4, h5, h6, h7⟩ := h
    refine ⟨vb, vl, h1, h2, h3, h4, h5, h6.into hS, ?_⟩
    rcases h7 with h7 | ⟨g, o, cap, e1, e2, e3, e4, e5⟩
    · exact Or.inl ⟨none, 0, h7.1, h7.2⟩
    · refine Or.inr ⟨g, o, cap, e1, hS g e4, fun j x hj => ?_⟩
      obtain ⟨c0, c1, c2, c3, c4, d0, d1, d2, d3, d4, hr⟩ := e5 j x hj
      exact ⟨c0, c1, c2, c3, c4, d0, d1, d2, d3, d4, ReadsS.into hS n _ _ hr⟩
/-- What is read. -/
def listD (g : List UInt8 → Except Int (Val × List UInt8)) : Nat → List UInt8 → Except Int (List Val × List UInt8)
  | 0, l => .ok ([], l)
  | m + 1, l => match g l with
    | .ok (x, r) => match listD g m r with
      | .ok (xs, r') => .ok (x :: xs, r')
      | .error c => .error c
    | .error c => .error c
def valD : Nat → List UInt8 → Except Int (Val × List UInt8)
  | 0, _ => .error 24
  | n + 1, l => match headD l with
    | .error c => .error c
    | .ok (k, m, r) =>
      if k = 0 then .ok (.mk 0 m [] 0 [], r)
      else if k = 1 then (if r.length < m then .error 20 else .ok (.mk 1 0 (r.take m) 0 [], r.drop m))
      else if k = 2 then (match floatD m r with
        | .ok (f, r') => .ok (.mk 2 0 [] f [], r')
        | .error c => .error c)
      else match listD (valD n) m r with
        | .ok (xs, r') => .ok (.mk 3 0 [] 0 xs, r')
        | .error c => .error c
theorem headLoop_less : ∀ (l : List UInt8) (s n : Nat) {m : Nat} {r : List UInt8}, headLoop s n l = .ok (m, r) → r.length < l.length
  | [], s, n, m, r, h => by simp only [headLoop] at h; cases h
  | p :: l, s, n, m, r, h => by
    simp only [headLoop] at h
    split at h
    · cases h
    split at h
    · have := headLoop_less l _ _ h
      simp; omega
    · injection h with h
      injection h with _ h
      subst h; simp
theorem headD_less {l r : List UInt8} {k m : Nat} (h : headD l = .ok (k, m, r)) : r.length < l.length := by
  cases l with
  | nil => simp only [headD] at h; cases h
  | cons c l =>
    simp only [headD] at h
    split at h
    · cases hl : headLoop 5 (c.toNat % 128 / 4) l with
      | error e => rw [hl] at h; cases h
      | ok y =>
        obtain ⟨n, r'⟩ := y
        rw [hl] at h
        injection h with h
        injection h with _ h
        injection h with _ h
        subst h
        have := headLoop_less l _ _ hl
        simp; omega
    · injection h with h
      injection h with _ h
      injection h with _ h
      subst h; simp
theorem listD_less {g : List UInt8 → Except Int (Val × List UInt8)} (hg : ∀ {l x r}, g l = .ok (x, r) → r.length < l.length) : ∀ (m : Nat) (l : List UInt8) {xs : List Val} {r : List UInt8}, listD g m l = .ok (xs, r) → r.length + m ≤ l.length ∧ xs.length = m
  | 0, l, xs, r, h => by simp only [listD] at h; injection h with h; injection h with h1 h2; subst h1 h2; simp
  | m + 1, l, xs, r, h => by
    simp only [listD] at h
    cases hl : g l with
    | error c => rw [hl] at h; cases h
    | ok y =>
      obtain ⟨x, r1⟩ := y
      rw [hl] at h
      simp only at h
      cases hm : listD g m r1 with
      | error c => rw [hm] at h; cases h
      | ok z =>
        obtain ⟨ys, r2⟩ := z
        rw [hm] at h
        injection h with h
        injection h with h1 h2
        subst h1 h2
        have a := hg hl
        have b := listD_less hg m r1 hm
        simp; omega
theorem valD_less : ∀ {n : Nat} {l : List UInt8} {x : Val} {r : List UInt8}, valD n l = .ok (x, r) → r.length < l.length
  | 0, _, _, _, h => by simp only [valD] at h; cases h
  | n + 1, l, x, r, h => by
    simp only [valD] at h
    cases hh : headD l with
    | error c => rw [hh] at h; cases h
    | ok y =>
      obtain ⟨k, m, r1⟩ := y
      have hl := headD_less hh
      rw [hh] at h
      simp only at h
      split at h
      · injection h with h; injection h with _ h; subst h; exact hl
      split at h
      · split at h
        · cases h
        · injection h with h; injection h with _ h; subst h; rw [List.length_drop]; omega
      split at h
      · cases hf : floatD m r1 with
        | error c => rw [hf] at h; cases h
        | ok z =>
          obtain ⟨f, r2⟩ := z
          rw [hf] at h
          injection h with h; injection h with _ h; subst h
          unfold floatD at hf
          split at hf
          · cases hf
          split at hf
          · cases hf
          · injection hf with hf; injection hf with _ hf; subst hf; rw [List.length_drop]; omega
      · cases hd : listD (valD n) m r1 with
        | error c => rw [hd] at h; cases h
        | ok z =>
          obtain ⟨xs, r2⟩ := z
          rw [hd] at h
          injection h with h; injection h with _ h; subst h
          have := (listD_less (fun e => valD_less e) m r1 hd).1
          omega
end Go.Proofs.Ytgppadnbfggkcaa
