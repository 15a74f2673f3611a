/- Arguments opened: a slice of bytes; a value, to any depth. -/
import Derived.Test.YtgppadnbfggkcaaAe
import Derived.Deep.Slices
import Derived.Deep.Fields
import Derived.ChangeSame
import Derived.Carry
import Derived.Laws.FloatArith
import Derived.Lib.SmallJoins
namespace Go.Proofs.Ytgppadnbfggkcaa
open Go.RowKit Go.ChangeShapes Go.WideShapes Go.Deep Go.Joins

theorem slice_of_val {P : Program} {w : World} {r : Reach} {b0 : Nat} {t e : TypeId} {v : Value} (ht : P.underlying t = some (.slice e)) (hval : Value.okWide P w r b0 t v) : ∃ a n c, v = .slice a n c := by
  unfold Value.okWide at hval
  rw [ht] at hval
  unfold Cell.okWide at hval
  rw [ht] at hval
  unfold Cell.ok at hval
  rw [ht] at hval
  cases v <;> simp_all
section
variable {H : Type} {enc : TypeId × Value → H} {W : World}
theorem bulk_one {H : Type} (d : DataW H) : 1 ≤ Rows.uptoBulk d := by
  cases d with
  | lit l => cases l <;> simp [Rows.uptoBulk]
  | nil => simp [Rows.uptoBulk]
  | ptr d => simp [Rows.uptoBulk]
  | slice elems spare => simp [Rows.uptoBulk]
  | agg parts => simp [Rows.uptoBulk]
  | iface t d => simp [Rows.uptoBulk]
  | map entries => simp [Rows.uptoBulk]
  | held h => simp [Rows.uptoBulk]
theorem bulk_part {H : Type} {d : DataW H} {l : List (DataW H)} (h : d ∈ l) : Rows.uptoBulk d ≤ Rows.uptoBulkAll l := by
  induction l with
  | nil => cases h
  | cons x r ih =>
    simp only [Rows.uptoBulkAll]
    cases List.mem_cons.1 h with
    | inl e => subst e; omega
    | inr e => have := ih e; omega
theorem bulk_len {H : Type} (l : List (DataW H)) : l.length ≤ Rows.uptoBulkAll l := by
  induction l with
  | nil => simp [Rows.uptoBulkAll]
  | cons x r ih => have := bulk_one x; simp only [Rows.uptoBulkAll, List.length_cons]; omega
theorem bulk_slice {H : Type} (elems spare : List (DataW H)) : elems.length + 1 ≤ Rows.uptoBulk (.slice elems spare) ∧ Rows.uptoBulkAll elems + 1 ≤ Rows.uptoBulk (.slice elems spare) := by
  have h1 := bulk_len elems
  simp only [Rows.uptoBulk]
  omega
theorem add_none (a : Addr) : a.add 0 = a := by unfold Addr.add; rw [if_pos rfl]
def byteAt (w : World) (a : Addr) : UInt8 := match w.cell? a with
  | some (.int _ c) => UInt8.ofNat c.toNat
  | _ => 0
theorem open_bytes {fuel : Nat} {v : Value} {x : DataW H × List MemPlace} (h : DataW.trod enc Try.prog W 0 (fun _ => true) true fuel 23 [v] = some x) (hlt : ∀ p ∈ x.2, p.block < W.heap.size) :
    ∃ l, BytesC (fun k => k < W.heap.size) W v l ∧ l.length + 1 ≤ Rows.uptoBulk x.1 := by
  rcases open_slice Try.underlying23 h with ⟨hcs, hx⟩ | ⟨a, len, cap, m, n, D, Pl, hcs, hb, hl, hm, hmm, hx, hi⟩
  · injection hcs with hcs _
    subst hcs hx
    exact ⟨[], Or.inl ⟨rfl, rfl⟩, by simp [Rows.uptoBulk]⟩
  · injection hcs with hcs _
    subst hcs
    rw [if_pos rfl] at hmm
    subst hmm
    have hC : Try.prog.cellsOf 5 = 1 := by kernel_rfl
    have hlen : ((List.range len).map fun i => byteAt W (a.add i)).length = len := by simp
    refine ⟨(List.range len).map fun i => byteAt W (a.add i), Or.inr ⟨a, m, by rw [hlen], by rw [hlen]; exact hl, hm, ?_, fun j u hj => ?_⟩, ?_⟩
    · by_cases h0 : len = 0
      · left; subst h0; rfl
      · right
        refine hlt (.cell a.block (a.off + 0)) ?_
        rw [hx]
        refine List.mem_append_left _ (MemPlace.mem_row.2 ⟨0, ?_, rfl⟩)
        rw [hC]; omega
    · have hjl : j < len := by
        have := (List.getElem?_eq_some_iff.1 hj).1
        rw [bv_len, hlen] at this; exact this
      obtain ⟨cs', hc, ht⟩ := hi j (by omega)
      obtain ⟨c, hcs', _, hwf⟩ := DataW.trod_int Try.underlying5 ht
      obtain ⟨_, _, hat⟩ := World.cells?_some hc
      have h1 := hat 0 (by rw [hC]; omega)
      rw [hcs', hC, Nat.mul_one] at h1
      have e0 : (a.add j).add 0 = a.add j := add_none _
      rw [e0] at h1
      have hb := bounds_u8 hwf
      have hbyte : byteAt W (a.add j) = UInt8.ofNat c.toNat := by unfold byteAt; rw [h1]; rfl
      rw [h1]
      have hu : (bv ((List.range len).map fun i => byteAt W (a.add i)))[j]? = some (.int .u8 (byteAt W (a.add j)).toNat) := by
        unfold bv
        rw [List.getElem?_map, List.getElem?_map, List.getElem?_range hjl]
        rfl
      rw [hu] at hj
      rw [← hj, hbyte]
      have e : ((UInt8.ofNat c.toNat).toNat : Int) = c := by simp; omega
      rw [e]; rfl
    · rw [hx, hlen]
      have := (bulk_slice ((List.range len).map D) ((List.range (m - len)).map fun j => D (len + j))).1
      simpa using this
theorem list_bulk {H : Type} {xs : List (DataW H × List MemPlace)} {j : Nat} {y : DataW H × List MemPlace} (h : xs[j]? = some y) : Rows.uptoBulk y.1 + 1 ≤ Rows.uptoBulk (DataW.agg (xs.map (·.1))) := by
  have hm : y.1 ∈ xs.map (·.1) := List.mem_map.2 ⟨y, List.mem_of_getElem? h, rfl⟩
  have := bulk_part hm
  simp only [Rows.uptoBulk]; omega
theorem list_places {H : Type} {xs : List (DataW H × List MemPlace)} {j : Nat} {y : DataW H × List MemPlace} (h : xs[j]? = some y) {p : MemPlace} (hp : p ∈ y.2) : p ∈ xs.flatMap (·.2) :=
  List.mem_flatMap.2 ⟨y, List.mem_of_getElem? h, hp⟩
theorem five_one : oneCellFields Try.prog #[{ name := "Kind", type := 3, offset := 0, embedded := false, tag := "", pkgPath := "", byteOffset := 0 }, { name := "Uint", type := 22, offset := 1, embedded := false, tag := "", pkgPath := "", byteOffset := 8 },
        { name := "Bytes", type := 23, offset := 2, embedded := false, tag := "", pkgPath := "", byteOffset := 16 }, { name := "Float", type := 24, offset := 3, embedded := false, tag := "", pkgPath := "", byteOffset := 40 }, { name := "List", type := 25, offset := 4, embedded := false, tag := "", pkgPath := "", byteOffset := 48 }] = true := by kernel_rfl
/-- The five fields of a value that reads. -/
theorem open_five {fuel : Nat} {cs : List Value} {x : DataW H × List MemPlace} (h : DataW.trod enc Try.prog W 0 (fun _ => true) true fuel 27 cs = some x) :
    ∃ (k u : Int) (vb vl : Value) (f : Nat) (n : Nat) (yb yl : DataW H × List MemPlace), cs = [.int .i64 k, .int .u64 u, vb, .float .f64 f, vl] ∧ 0 ≤ u ∧ u ≤ 18446744073709551615 ∧ f < 18446744073709551616 ∧
      DataW.trod enc Try.prog W 0 (fun _ => true) true n 23 [vb] = some yb ∧ DataW.trod enc Try.prog W 0 (fun _ => true) true n 25 [vl] = some yl ∧
      (∀ p ∈ yb.2, p ∈ x.2) ∧ (∀ p ∈ yl.2, p ∈ x.2) ∧ Rows.uptoBulk yb.1 + 1 ≤ Rows.uptoBulk x.1 ∧ Rows.uptoBulk yl.1 + 1 ≤ Rows.uptoBulk x.1 := by
  obtain ⟨xs, n, _, hx, hcl, hlen, hf⟩ := DataW.trod_struct Try.underlying27 h
  have hC : Try.prog.cellsOf 27 = 5 := by kernel_rfl
  have hone := five_one
  rw [hC] at hcl
  match cs, hcl with
  | [c0, c1, c2, c3, c4], _ =>
    obtain ⟨o0, k0⟩ := hone_of hone 0 _ rfl
    obtain ⟨o1, k1⟩ := hone_of hone 1 _ rfl
    obtain ⟨o2, k2⟩ := hone_of hone 2 _ rfl
    obtain ⟨o3, k3⟩ := hone_of hone 3 _ rfl
    obtain ⟨o4, k4⟩ := hone_of hone 4 _ rfl
    have h0 : DataW.trod enc Try.prog W 0 (fun _ => true) true n 3 [c0] = xs[0]? := by have h := hf 0 _ rfl; rw [o0, k0] at h; exact h
    have h1 : DataW.trod enc Try.prog W 0 (fun _ => true) true n 22 [c1] = xs[1]? := by have h := hf 1 _ rfl; rw [o1, k1] at h; exact h
    have h2 : DataW.trod enc Try.prog W 0 (fun _ => true) true n 23 [c2] = xs[2]? := by have h := hf 2 _ rfl; rw [o2, k2] at h; exact h
    have h3 : DataW.trod enc Try.prog W 0 (fun _ => true) true n 24 [c3] = xs[3]? := by have h := hf 3 _ rfl; rw [o3, k3] at h; exact h
    have h4 : DataW.trod enc Try.prog W 0 (fun _ => true) true n 25 [c4] = xs[4]? := by have h := hf 4 _ rfl; rw [o4, k4] at h; exact h
    clear o0 k0 o1 k1 o2 k2 o3 k3 o4 k4
    have g : ∀ j, j < 5 → ∃ y, xs[j]? = some y := fun j hj => ⟨_, List.getElem?_eq_getElem (by rw [hlen]; exact hj)⟩
    obtain ⟨y0, e0⟩ := g 0 (by omega)
    obtain ⟨y1, e1⟩ := g 1 (by omega)
    obtain ⟨y2, e2⟩ := g 2 (by omega)
    obtain ⟨y3, e3⟩ := g 3 (by omega)
    obtain ⟨y4, e4⟩ := g 4 (by omega)
    rw [e0] at h0
    rw [e1] at h1
    rw [e2] at h2
    rw [e3] at h3
    rw [e4] at h4
    obtain ⟨k, k1, _, _⟩ := DataW.trod_int Try.underlying3 h0
    obtain ⟨u, u1, _, uw⟩ := DataW.trod_int Try.underlying22 h1
    obtain ⟨f, f1, fw⟩ : ∃ f, c3 = .float .f64 f ∧ (Lit.float .f64 f).wf = true := by
      cases n with
      | zero => simp [DataW.trod] at h3
      | succ m =>
        unfold DataW.trod at h3
        rw [Try.underlying24] at h3
        split at h3 <;> simp_all
    injection k1 with k1 _
    injection u1 with u1 _
    subst k1 u1 f1 hx
    have ub := bounds_u64 uw
    exact ⟨k, u, c2, c4, f, n, y2, y4, rfl, ub.1, ub.2, by simpa [Lit.wf] using fw, h2, h4, fun p hp => list_places e2 hp, fun p hp => list_places e4 hp, list_bulk e2, list_bulk e4⟩
theorem slice_shape {fuel : Nat} {v : Value} {x : DataW H × List MemPlace} {t e : TypeId} (ht : Try.prog.underlying t = some (.slice e)) (h : DataW.trod enc Try.prog W 0 (fun _ => true) true fuel t [v] = some x) : ∃ a n c, v = .slice a n c := by
  rcases open_slice ht h with ⟨hcs, _⟩ | ⟨a, len, cap, m, n, D, Pl, hcs, _⟩
  · injection hcs with hcs _; exact ⟨_, _, _, hcs⟩
  · injection hcs with hcs _; exact ⟨_, _, _, hcs⟩
theorem open_value : ∀ (n fuel : Nat) (cs : List Value) (x : DataW H × List MemPlace), DataW.trod enc Try.prog W 0 (fun _ => true) true fuel 27 cs = some x → (∀ p ∈ x.2, p.block < W.heap.size) → Rows.uptoBulk x.1 ≤ 1048576 →
    ∃ xv, Reads W.heap.size W n (.agg cs.toArray) xv := by
  intro n
  induction n with
  | zero =>
    intro fuel cs x h hlt hk
    obtain ⟨k, u, vb, vl, f, m, yb, yl, rfl, hu0, hu1, hf, hb, hl, _⟩ := open_five h
    obtain ⟨a1, n1, c1, rfl⟩ := slice_shape Try.underlying23 hb
    obtain ⟨a2, n2, c2, rfl⟩ := slice_shape Try.underlying25 hl
    obtain ⟨u, rfl⟩ := Int.eq_ofNat_of_zero_le hu0
    exact ⟨.mk k u [] f [], a1, n1, c1, a2, n2, c2, rfl⟩
  | succ n ih =>
    intro fuel cs x h hlt hk
    obtain ⟨k, u, vb, vl, f, m, yb, yl, rfl, hu0, hu1, hf, hb, hl, pb, pl, kb, kl⟩ := open_five h
    obtain ⟨u, rfl⟩ := Int.eq_ofNat_of_zero_le hu0
    obtain ⟨b, hbc, hbl⟩ := open_bytes hb (fun p hp => hlt p (pb p hp))
    have hlist : ∃ l, ListIn W.heap.size W (Reads W.heap.size W n) vl l ∧ l.length ≤ 1048576 := by
      rcases open_slice Try.underlying25 hl with ⟨hcs, hx⟩ | ⟨a, len, cap, mm, n', D, Pl, hcs, hb0, hlc, hm, hmm, hx, hi⟩
      · injection hcs with hcs _
        subst hcs
        exact ⟨[], Or.inl ⟨none, 0, rfl, rfl⟩, by simp⟩
      · injection hcs with hcs _
        subst hcs
        rw [if_pos rfl] at hmm
        subst hmm
        have hC : Try.prog.cellsOf 27 = 5 := by kernel_rfl
        by_cases h0 : len = 0
        · subst h0
          exact ⟨[], Or.inl ⟨some a, mm, rfl, rfl⟩, by simp⟩
        have hbulk := bulk_slice ((List.range len).map D) ((List.range (mm - len)).map fun j => D (len + j))
        have kl2 : Rows.uptoBulk (DataW.slice ((List.range len).map D) ((List.range (mm - len)).map fun j => D (len + j))) + 1 ≤ Rows.uptoBulk x.1 := by rw [hx] at kl; exact kl
        simp only [List.length_map, List.length_range] at hbulk
        have hplain : ∃ g o, a = ⟨g, o, none⟩ := by
          obtain ⟨cs', hc, ht⟩ := hi 0 (by omega)
          obtain ⟨k', u', vb', vl', f', _, _, _, hcs', _⟩ := open_five ht
          obtain ⟨_, _, hat⟩ := World.cells?_some hc
          have h1 := hat 0 (by rw [hC]; omega)
          rw [hcs', Nat.zero_mul, add_none, add_none] at h1
          obtain ⟨g, o, spot⟩ := a
          have hspot : spot = none := by simpa using World.cell?_spot h1
          exact ⟨g, o, by rw [hspot]⟩
        obtain ⟨g, o, rfl⟩ := hplain
        have hg : g < W.heap.size := by
          refine hlt (.cell g (o + 0)) (pl _ ?_)
          rw [hx]
          refine List.mem_append_left _ (MemPlace.mem_row.2 ⟨0, ?_, rfl⟩)
          rw [hC]; omega
        have hel : ∀ j, j < len → ∃ xv c0 c1 c2 c3 c4, W.cell? ⟨g, o + j * 5, none⟩ = some c0 ∧ W.cell? ⟨g, o + j * 5 + 1, none⟩ = some c1 ∧ W.cell? ⟨g, o + j * 5 + 2, none⟩ = some c2 ∧ W.cell? ⟨g, o + j * 5 + 3, none⟩ = some c3 ∧ W.cell? ⟨g, o + j * 5 + 4, none⟩ = some c4 ∧
            Reads W.heap.size W n (.agg #[c0, c1, c2, c3, c4]) xv := by
          intro j hj
          obtain ⟨cs', hc, ht⟩ := hi j (by omega)
          have hDj : D j ∈ (List.range len).map D := List.mem_map.2 ⟨j, List.mem_range.2 hj, rfl⟩
          have hb1 := bulk_part hDj
          obtain ⟨xv, hxv⟩ := ih n' cs' (D j, Pl j) ht (fun p hp => hlt p (pl p (by
            rw [hx]
            exact List.mem_append_right _ (List.mem_flatMap.2 ⟨j, List.mem_range.2 (by omega), hp⟩)))) (by show Rows.uptoBulk (D j) ≤ 1048576; omega)
          obtain ⟨k', u', vb', vl', f', _, _, _, rfl, _⟩ := open_five ht
          obtain ⟨_, _, hat⟩ := World.cells?_some hc
          have ea : ∀ i, ((⟨g, o, none⟩ : Addr).add (j * Try.prog.cellsOf 27)).add i = ⟨g, o + j * 5 + i, none⟩ := fun i => by
            rw [hC, Go.Deep.add_add, add_plain, Nat.add_assoc]
          have h0 := hat 0 (by rw [hC]; omega)
          have h1 := hat 1 (by rw [hC]; omega)
          have h2 := hat 2 (by rw [hC]; omega)
          have h3 := hat 3 (by rw [hC]; omega)
          have h4 := hat 4 (by rw [hC]; omega)
          rw [ea] at h0 h1 h2 h3 h4
          exact ⟨xv, _, _, _, _, _, h0, h1, h2, h3, h4, hxv⟩
        refine ⟨(List.range len).map fun j => if hj : j < len then (hel j hj).choose else default, Or.inr ⟨g, o, mm, by simp, hg, fun j y hj => ?_⟩, by simp; omega⟩
        have hjl : j < len := by
          have := (List.getElem?_eq_some_iff.1 hj).1
          simpa using this
        rw [List.getElem?_map, List.getElem?_range hjl] at hj
        simp only [Option.map_some, hjl, dite_true] at hj
        injection hj with hj
        subst hj
        exact (hel j hjl).choose_spec
    obtain ⟨l, hli, hll⟩ := hlist
    exact ⟨.mk k u b f l, vb, vl, rfl, by omega, hf, by omega, hll, hbc.into (fun k hk => hk), hli⟩
end
end Go.Proofs.Ytgppadnbfggkcaa
