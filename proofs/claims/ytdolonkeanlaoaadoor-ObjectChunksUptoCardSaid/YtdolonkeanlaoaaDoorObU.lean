/- The walk of object's record. -/
import Derived.Test.YtdolonkeanlaoaaDoorObT
namespace Go.Proofs.YtdolonkeanlaoaaDoor
open Go.RowKit

theorem five_one {c0 c1 c2 c3 c4 : Value} {k : Int} {u f : Nat} {a1 a2 : Option Addr} {n1 p1 n2 p2 : Nat} (h : Five.agg ⟨c0, c1, c2, c3, c4⟩ = .agg #[.int .i64 k, .int .u64 u, .slice a1 n1 p1, .float .f64 f, .slice a2 n2 p2]) : ∀ x ∈ Five.flat ⟨c0, c1, c2, c3, c4⟩, x.oneCell' = true := by
  unfold Five.agg at h
  injection h with h
  have hsh : [c0, c1, c2, c3, c4] = [.int .i64 k, .int .u64 u, .slice a1 n1 p1, .float .f64 f, .slice a2 n2 p2] := by injection h
  intro x hx
  unfold Five.flat at hx
  rw [hsh] at hx
  simp at hx
  rcases hx with rfl | rfl | rfl | rfl | rfl <;> rfl
theorem ReadsS.one {S : Nat → Prop} {w : World} : ∀ {n : Nat} {q : Five} {y : Val}, ReadsS S w n q.agg y → ∀ u ∈ q.flat, u.oneCell' = true
  | 0, ⟨c0, c1, c2, c3, c4⟩, .mk .., h => by
    obtain ⟨_, _, _, _, _, _, h⟩ := h
    exact five_one h
  | n + 1, ⟨c0, c1, c2, c3, c4⟩, x, h => by
    obtain ⟨_, _, _, _, h, _⟩ := h.parts
    exact five_one h
/-- The cells of a list of values. -/
theorem ListS.fives {S : Nat → Prop} {w : World} {n : Nat} {v : Value} {l : List Val} (h : ListS S w (ReadsS S w n) v l) : ∃ qs : List Five, qs.length = l.length ∧ CellsC S w v l.length 5 (qs.flatMap Five.flat) ∧ ∀ (j : Nat) (q : Five) (y : Val), qs[j]? = some q → l[j]? = some y → ReadsS S w n q.agg y := by
  rcases h with ⟨rfl, rfl⟩ | ⟨g, o, cap, rfl, hlc, hcm, hSg, hc⟩
  · exact ⟨[], rfl, CellsC.nil _ _ _ _ _, fun j q y h _ => by simp at h⟩
  · have key : ∀ j : Nat, ∃ q : Five, ∀ y, l[j]? = some y → (w.cell? ⟨g, o + j * 5, none⟩ = some q.c0 ∧ w.cell? ⟨g, o + j * 5 + 1, none⟩ = some q.c1 ∧ w.cell? ⟨g, o + j * 5 + 2, none⟩ = some q.c2 ∧ w.cell? ⟨g, o + j * 5 + 3, none⟩ = some q.c3 ∧ w.cell? ⟨g, o + j * 5 + 4, none⟩ = some q.c4) ∧ ReadsS S w n q.agg y := fun j => by
      cases hj : l[j]? with
      | none => exact ⟨⟨.int .i64 0, .int .i64 0, .int .i64 0, .int .i64 0, .int .i64 0⟩, fun y hy => by cases hy⟩
      | some x =>
        obtain ⟨c0, c1, c2, c3, c4, e0, e1, e2, e3, e4, hr⟩ := hc j x hj
        exact ⟨⟨c0, c1, c2, c3, c4⟩, fun y hy => by injection hy with hy; subst hy; exact ⟨⟨e0, e1, e2, e3, e4⟩, hr⟩⟩
    obtain ⟨F, hF⟩ := Classical.axiomOfChoice key
    have hq : ∀ j q, ((List.range l.length).map F)[j]? = some q → j < l.length ∧ q = F j := fun j q h => by
      have hj : j < l.length := by have := (List.getElem?_eq_some_iff.1 h).1; simpa using this
      rw [List.getElem?_map, List.getElem?_range hj] at h
      injection h with h
      exact ⟨hj, h.symm⟩
    refine ⟨(List.range l.length).map F, by simp, ⟨by rw [flat_len]; simp, fun u hu => ?_, Or.inr ⟨g, o, cap, rfl, hSg, hlc, hcm, fun j u hj => ?_⟩⟩, fun j q y hjq hy => ?_⟩
    · obtain ⟨q, hq1, hq2⟩ := List.mem_flatMap.1 hu
      obtain ⟨j, hj, rfl⟩ := List.mem_map.1 hq1
      have hjl : j < l.length := List.mem_range.1 hj
      exact ReadsS.one ((hF j _ (List.getElem?_eq_getElem hjl)).2) u hq2
    · have hjl : j < l.length * 5 := by
        have := (List.getElem?_eq_some_iff.1 hj).1
        rw [flat_len] at this
        simpa using this
      obtain ⟨a, b, hab, hb⟩ : ∃ a b, j = a * 5 + b ∧ b < 5 := ⟨j / 5, j % 5, by omega, by omega⟩
      have ha : a < l.length := by omega
      obtain ⟨⟨e0, e1, e2, e3, e4⟩, _⟩ := hF a _ (List.getElem?_eq_getElem ha)
      obtain ⟨f0, f1, f2, f3, f4⟩ := flat_at ((List.range l.length).map F) a (F a) (by rw [List.getElem?_map, List.getElem?_range ha]; rfl)
      subst hab
      match b, hb, hj with
      | 0, _, hj => rw [Nat.add_zero] at hj ⊢; rw [f0] at hj; injection hj with hj; subst hj; exact e0
      | 1, _, hj => rw [f1] at hj; injection hj with hj; subst hj; rw [← Nat.add_assoc]; exact e1
      | 2, _, hj => rw [f2] at hj; injection hj with hj; subst hj; rw [← Nat.add_assoc]; exact e2
      | 3, _, hj => rw [f3] at hj; injection hj with hj; subst hj; rw [← Nat.add_assoc]; exact e3
      | 4, _, hj => rw [f4] at hj; injection hj with hj; subst hj; rw [← Nat.add_assoc]; exact e4
    · obtain ⟨hj, rfl⟩ := hq j q hjq
      exact (hF j y hy).2
/-- A row of one's own as a list of values. -/
theorem list_own {S : Nat → Prop} {w : World} {B n : Nat} {v : Value} {qs : List Five} {ys : List Val} (h : w.ownsRow B 53 5 v qs.length (qs.flatMap Five.flat)) (hl : qs.length = ys.length) (hv : ∀ k, v.ownBlock = some k → S k)
    (he : ∀ (j : Nat) (q : Five) (y : Val), qs[j]? = some q → ys[j]? = some y → ReadsS S w n q.agg y) : ListS S w (ReadsS S w n) v ys := by
  rcases h.2 with ⟨rfl, hn⟩ | ⟨g, cap, cur, rfl, hB, hg, hnc, hcm, _⟩
  · exact Or.inl ⟨rfl, List.length_eq_zero_iff.1 (by rw [← hl]; exact hn)⟩
  · refine Or.inr ⟨g, 0, cap, by rw [hl], by rw [← hl]; exact hnc, hcm, hv g rfl, fun j y hy => ?_⟩
    have hj : j < qs.length := by rw [hl]; exact (List.getElem?_eq_some_iff.1 hy).1
    have hq : qs[j]? = some qs[j] := List.getElem?_eq_getElem hj
    obtain ⟨f0, f1, f2, f3, f4⟩ := flat_at qs j _ hq
    have hc := World.ownsRow.cells h (g := g) rfl
    have ea : ∀ i, (⟨g, 0, none⟩ : Addr).add i = ⟨g, 0 + i, none⟩ := fun i => by simp [Addr.add]; omega
    have d0 := hc _ _ f0
    have d1 := hc _ _ f1
    have d2 := hc _ _ f2
    have d3 := hc _ _ f3
    have d4 := hc _ _ f4
    rw [ea] at d0 d1 d2 d3 d4
    refine ⟨_, _, _, _, _, d0, ?_, ?_, ?_, ?_, he j _ y hq hy⟩
    · rw [← d1]; congr 2
    · rw [← d2]; congr 2
    · rw [← d3]; congr 2
    · rw [← d4]; congr 2
theorem five_own (w : World) (q : Five) : (w.alloc (.cells #[q.c0, q.c1, q.c2, q.c3, q.c4] 53)).ownsRow w.heap.size 53 5 (.slice (some ⟨w.heap.size, 0, none⟩) 1 1) 1 q.flat :=
  ⟨rfl, Or.inr ⟨w.heap.size, 1, _, rfl, Nat.le_refl _, new_five w _ _, Nat.le_refl _, by unfold maxLen; omega, rfl, rfl⟩⟩
set_option maxRecDepth 100000 in
set_option maxHeartbeats 4000000 in
theorem record_any (S : Nat → Prop) (kind : Nat) (v : Value) (vs : List Val) (w : World) (hS : ∀ k, S k → k < w.heap.size) (hk : kind < 18446744073709551616) (hl : vs.length ≤ 1000) (hD : ∀ x ∈ vs, Deep 15 x) (hv : ListS S w (ReadsS S w 15) v vs) :
    Calls Tryd.prog 15 #[.int .u64 kind, v] w (EncAnswers w (encR (recV kind vs))) := by
  obtain ⟨i0, hi, hz0, hz1, hz2q⟩ := info_parts Tryd.info53
  obtain ⟨qs, hq1, hq2, hq3⟩ := hv.fives
  obtain ⟨va, vc, rfl⟩ := hv.shape
  have HQ2 := Lib.hid hq2
  have HQ3 := Lib.hid hq3
  have HS := Lib.hid hS
  have HD := Lib.hid hD
  have HQ1 := Lib.hid hq1
  obtain ⟨m, hm⟩ : ∃ m, vs.length = m := ⟨_, rfl⟩
  have HM := Lib.hid hm
  rw [hm] at hl HQ2 ⊢
  clear hv hq1 hq2 hq3 hS hD hm
  go_enter Tryd.func15, Tryd.ntmps15
  go_wp2_with fail
  refine (num_any kind w).mono ?_
  rintro e w1 ⟨rfl, hb1⟩
  have HB1 := Lib.hid hb1
  have hz1s := hb1.size
  have hsrc := ((HQ2.out.kept (S' := S) (w' := w1.alloc (.cells #[.int .i64 0, .int .u64 kind, .slice none 0 0, .float .f64 (0 : Nat), .slice none 0 0] 53)) (fun k hk => ⟨hk, (Below.heap_alloc _ _ _ (by have := HS.out k hk; omega)).trans (hb1.block k (HS.out k hk))⟩))).src (P := Tryd.prog) Tryd.underlying51
  have hown := five_own w1 ⟨.int .i64 0, .int .u64 kind, .slice none 0 0, .float .f64 (0 : Nat), .slice none 0 0⟩
  clear hb1
  go_wp2_with (at_builtin; refine wpList_own_src _ rfl _ _ 51 51 rfl w1.heap.size 53 i0 _ 5 72 Tryd.underlying51 hi hz0 hz1 hz2q rfl (by decide) _ _ _ rfl hown _ _ _ rfl hsrc ?c3 ?c4 ?c5 ?_)
  case c3 => unfold maxLen; omega
  case c4 => omega
  case c5 => simp
  intro v2 w2 hown2 hg2
  have HB2 : Hid (Below w.heap.size w w2) := Lib.hid ((HB1.out.alloc HB1.out.size _).grown hg2.gb (by simp; omega) (fun q hq => by have := (World.ownsRow.lt hown q hq).1; omega))
  have HLS : Hid (ListS (fun k => k < w2.heap.size) w2 (ReadsS (fun k => k < w2.heap.size) w2 15) v2 (numV kind :: vs)) := Lib.hid (by
    refine list_own (qs := ⟨.int .i64 0, .int .u64 kind, .slice none 0 0, .float .f64 (0 : Nat), .slice none 0 0⟩ :: qs) (B := w1.heap.size) ?_ ?_ (fun q hq => (World.ownsRow.lt hown2 q hq).2) ?_
    · rw [List.length_cons, HQ1.out, HM.out, Nat.add_comm, List.flatMap_cons]; exact hown2
    · simp [HQ1.out]
    · intro j q y hj hy
      cases j with
      | zero => simp at hj hy; subst hj hy; exact num_reads 14 kind hk
      | succ j => exact ReadsS.kept (fun k hk => ⟨by have := HS.out k hk; have := HB2.out.size; omega, HB2.out.block k (HS.out k hk)⟩) 15 _ _ (HQ3.out j q y (by simpa using hj) (by simpa using hy)))
  obtain ⟨a2, c2, rfl⟩ := row_shape_any hown2
  have HRW := Lib.hid (row_any 15 _ _ (numV kind :: vs) w2 (fun q hq => hq) (by simp; have := HM.out; omega) (fun x hx => by
    rcases List.mem_cons.1 hx with rfl | hx
    · exact deep_num _ _
    · exact HD.out x hx) HLS.out)
  clear hown2 hg2 hown hsrc HLS
  go_wp2_with fail
  refine HRW.out.mono ?_
  rintro e w3 ⟨vr, rfl, hvr, hb3⟩
  have HB3 : Hid (Below w.heap.size w w3) := Lib.hid (HB2.out.trans (hb3.mono HB2.out.size))
  have hrd := ReadsS.into (B := w3.heap.size) (fun k hk => hk.2) 16 _ _ (row_reads (n := 15) hvr (by simp; have := HM.out; omega))
  have HE := Lib.hid (encode_any _ _ w3 hrd)
  obtain ⟨ra, rc, rfl⟩ := hvr.shape
  obtain ⟨rl, hrl⟩ : ∃ rl, (numV kind :: vs).length = rl := ⟨_, rfl⟩
  rw [hrl] at HE ⊢
  have HRV : Hid (encR (rowV (numV kind :: vs)) = encR (recV kind vs)) := Lib.hid rfl
  rw [HRV.out] at HE
  clear hvr hb3 hrd hrl
  generalize encR (recV kind vs) = r at *
  go_wp2_with fail
  refine HE.out.mono ?_
  intro e w4 h4
  cases r with
  | error c =>
    obtain ⟨rfl, hb4⟩ := h4
    have HB4 := Lib.hid (HB3.out.trans (hb4.mono HB3.out.size))
    clear hb4
    go_wp2_with fail
    go_ret2
    exact ⟨rfl, HB4.out⟩
  | ok o =>
    obtain ⟨vo, rfl, ho, hb4⟩ := h4
    have HB4 := Lib.hid (HB3.out.trans (hb4.mono HB3.out.size))
    have HO := Lib.hid (ho.mono HB3.out.size)
    clear hb4 ho
    go_wp2_with fail
    go_ret2
    exact ⟨_, rfl, HO.out, HB4.out⟩
end Go.Proofs.YtdolonkeanlaoaaDoor
