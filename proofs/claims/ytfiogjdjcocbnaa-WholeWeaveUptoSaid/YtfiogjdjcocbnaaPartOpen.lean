/- Arguments opened: a slice of parts; a pair of slices of texts. -/
import Derived.Test.YtfiogjdjcocbnaaStrOpen
import Derived.Test.YtfiogjdjcocbnaaWeavH
namespace Go.Proofs.Ytfiogjdjcocbnaa
open Go.RowKit Go.ChangeShapes Go.WideShapes Go.Deep Go.Joins

/-- Values and letters that parts hold, at most. -/
def sumP : List (PartN (List UInt8)) → Nat
  | [] => 0
  | h :: r => sumL h.base + sumL h.ours + sumL h.theirs + 1 + sumP r
theorem sumP_len : ∀ hs : List (PartN (List UInt8)), hs.length ≤ sumP hs
  | [] => Nat.zero_le _
  | h :: r => by have := sumP_len r; simp only [sumP, List.length_cons]; omega
theorem sumP_parts : ∀ hs : List (PartN (List UInt8)), partsN hs ≤ 4 * sumP hs
  | [] => Nat.zero_le _
  | h :: r => by
    have := sumP_parts r; have := sumL_len h.base; have := sumL_len h.ours; have := sumL_len h.theirs
    rw [partsN_cons]; simp only [sumP]; omega
theorem sumP_mem : ∀ (hs : List (PartN (List UInt8))), ∀ h ∈ hs, sumL h.base ≤ sumP hs ∧ sumL h.ours ≤ sumP hs ∧ sumL h.theirs ≤ sumP hs
  | [], _, hh => by cases hh
  | x :: r, h, hh => by
    rcases List.mem_cons.1 hh with rfl | hh
    · simp only [sumP]; omega
    · have := sumP_mem r h hh; simp only [sumP]; omega
section
variable {H : Type} {enc : TypeId × Value → H} {W : World}
theorem part_one : oneCellFields Try.prog #[{ name := "Kind", type := 3, offset := 0, embedded := false, tag := "", pkgPath := "", byteOffset := 0 }, { name := "Base", type := 24, offset := 1, embedded := false, tag := "", pkgPath := "", byteOffset := 8 },
        { name := "Ours", type := 24, offset := 2, embedded := false, tag := "", pkgPath := "", byteOffset := 32 }, { name := "Theirs", type := 24, offset := 3, embedded := false, tag := "", pkgPath := "", byteOffset := 56 }] = true := by kernel_rfl
set_option maxRecDepth 100000 in
theorem open_part {fuel : Nat} {cs : List Value} {x : DataW H × List MemPlace} (h : DataW.trod enc Try.prog W 0 (fun _ => true) true fuel 73 cs = some x) (hlt : ∀ p ∈ x.2, p.block < W.heap.size) :
    ∃ k : PartN (List UInt8), partRel (fun k => k < W.heap.size) W k cs ∧ cs.length = 4 ∧ (∀ u ∈ cs, u.oneCell' = true) ∧ sumL k.base + sumL k.ours + sumL k.theirs + 1 ≤ Rows.uptoBulk x.1 := by
  obtain ⟨xs, n, _, hx, hcl, hlen, hf⟩ := DataW.trod_struct Try.underlying73 h
  have hC : Try.prog.cellsOf 73 = 4 := by kernel_rfl
  have hone := part_one
  rw [hC] at hcl
  match cs, hcl with
  | [c0, c1, c2, c3], _ =>
    obtain ⟨o0, k0⟩ := hone_of hone 0 _ rfl
    obtain ⟨o1, k1⟩ := hone_of hone 1 _ rfl
    obtain ⟨o2, k2⟩ := hone_of hone 2 _ rfl
    obtain ⟨o3, k3⟩ := hone_of hone 3 _ rfl
    have h0 : DataW.trod enc Try.prog W 0 (fun _ => true) true n 3 [c0] = xs[0]? := by have h := hf 0 _ rfl; rw [o0, k0] at h; exact h
    have h1 : DataW.trod enc Try.prog W 0 (fun _ => true) true n 24 [c1] = xs[1]? := by have h := hf 1 _ rfl; rw [o1, k1] at h; exact h
    have h2 : DataW.trod enc Try.prog W 0 (fun _ => true) true n 24 [c2] = xs[2]? := by have h := hf 2 _ rfl; rw [o2, k2] at h; exact h
    have h3 : DataW.trod enc Try.prog W 0 (fun _ => true) true n 24 [c3] = xs[3]? := by have h := hf 3 _ rfl; rw [o3, k3] at h; exact h
    clear o0 k0 o1 k1 o2 k2 o3 k3
    match xs, hlen with
    | [y0, y1, y2, y3], _ =>
      simp only [List.getElem?_cons_zero, List.getElem?_cons_succ] at h0 h1 h2 h3
      obtain ⟨k, hk, _, _⟩ := DataW.trod_int Try.underlying3 h0
      injection hk with hk _
      subst hk hx
      obtain ⟨l1, s1, b1⟩ := open_strs h1 (fun p hp => hlt p (by simp [hp]))
      obtain ⟨l2, s2, b2⟩ := open_strs h2 (fun p hp => hlt p (by simp [hp]))
      obtain ⟨l3, s3, b3⟩ := open_strs h3 (fun p hp => hlt p (by simp [hp]))
      obtain ⟨a1, n1, rfl⟩ := s1.shape
      obtain ⟨a2, n2, rfl⟩ := s2.shape
      obtain ⟨a3, n3, rfl⟩ := s3.shape
      refine ⟨⟨k, l1, l2, l3⟩, ⟨_, _, _, rfl, s1, s2, s3⟩, rfl, fun u hu => ?_, ?_⟩
      · simp at hu; rcases hu with rfl | rfl | rfl | rfl <;> rfl
      · simp only [List.map_cons, List.map_nil, Rows.uptoBulk, Rows.uptoBulkAll]
        show sumL l1 + sumL l2 + sumL l3 + 1 ≤ _
        omega
theorem open_parts {fuel : Nat} {v : Value} {x : DataW H × List MemPlace} (h : DataW.trod enc Try.prog W 0 (fun _ => true) true fuel 60 [v] = some x) (hlt : ∀ p ∈ x.2, p.block < W.heap.size) :
    ∃ l, PartsC (fun k => k < W.heap.size) W v l ∧ sumP l ≤ Rows.uptoBulk x.1 := by
  have hC : Try.prog.cellsOf 73 = 4 := by kernel_rfl
  rcases open_slice Try.underlying60 h with ⟨hcs, hx⟩ | ⟨a, len, cap, m, n, D, Pl, hcs, hb, hl, hm, hmm, hx, hi⟩
  · injection hcs with hcs _
    subst hcs hx
    exact ⟨[], ⟨[], rfl, fun _ h => (by cases h), CellsC.nil _ _ _ _ _, fun j e cs h _ => by simp at h⟩, Nat.zero_le _⟩
  · injection hcs with hcs _
    subst hcs
    rw [if_pos rfl] at hmm
    subst hmm
    have key : ∀ i, ∃ q : PartN (List UInt8) × List Value, i < len → partRel (fun k => k < W.heap.size) W q.1 q.2 ∧ q.2.length = 4 ∧ (∀ u ∈ q.2, u.oneCell' = true) ∧ sumL q.1.base + sumL q.1.ours + sumL q.1.theirs + 1 ≤ Rows.uptoBulk (D i) ∧ ∀ j u, q.2[j]? = some u → W.cell? ((a.add (i * 4)).add j) = some u := fun i => by
      by_cases hil : i < len
      · obtain ⟨cs', hc, ht⟩ := hi i (by omega)
        obtain ⟨k, r1, r2, r3, r4⟩ := open_part ht (fun p hp => hlt p (by rw [hx]; exact List.mem_append_right _ (List.mem_flatMap.2 ⟨i, List.mem_range.2 (by omega), hp⟩)))
        obtain ⟨_, _, hat⟩ := World.cells?_some hc
        refine ⟨(k, cs'), fun _ => ⟨r1, r2, r3, r4, fun j u hu => ?_⟩⟩
        have hj : j < 4 := by rw [← r2]; exact (List.getElem?_eq_some_iff.1 hu).1
        have h1 := hat j (by rw [hC]; exact hj)
        rw [hC] at h1
        rw [h1]; exact hu
      · exact ⟨(⟨0, [], [], []⟩, []), fun h => absurd h hil⟩
    obtain ⟨F, hF⟩ := Classical.axiomOfChoice key
    have hhl : ((List.range len).map fun i => (F i).1).length = len := by simp
    have hcl : ((List.range len).map fun i => (F i).2).length = len := by simp
    have hhat : ∀ i, i < len → ((List.range len).map fun i => (F i).1)[i]? = some (F i).1 := fun i hi => by simp [hi]
    have hcat : ∀ i, i < len → ((List.range len).map fun i => (F i).2)[i]? = some (F i).2 := fun i hi => by simp [hi]
    have hce : ∀ cs ∈ (List.range len).map fun i => (F i).2, cs.length = 4 := fun cs hcs => by
      obtain ⟨i, hi, rfl⟩ := List.mem_map.1 hcs
      exact (hF i (List.mem_range.1 hi)).2.1
    refine ⟨(List.range len).map fun i => (F i).1, ⟨(List.range len).map fun i => (F i).2, by rw [hhl, hcl], hce, ?_, fun j e cs he hc => ?_⟩, ?_⟩
    · by_cases h0 : len = 0
      · subst h0; exact CellsC.nil _ _ _ _ _
      · have h00 := hF 0 (by omega)
        have hsp : a.spot = none := by
          obtain ⟨v1, v2, v3, e, _⟩ := h00.1
          have := h00.2.2.2.2 0 (.int .i64 (F 0).1.kind) (by rw [e]; rfl)
          rw [Nat.zero_mul, add_none, add_none] at this
          exact spot_none this
        obtain ⟨g, o, sp⟩ := a
        simp only at hsp
        subst hsp
        refine ⟨by rw [flatten_len _ hce, hcl, hhl], fun u hu => ?_, Or.inr ⟨g, o, m, by rw [hhl], ?_, by rw [hhl]; exact hl, hm, fun j u hj => ?_⟩⟩
        · obtain ⟨cs, hcs, hu⟩ := List.mem_flatten.1 hu
          obtain ⟨i, hi, rfl⟩ := List.mem_map.1 hcs
          exact (hF i (List.mem_range.1 hi)).2.2.1 u hu
        · refine hlt (.cell g (o + 0)) ?_
          rw [hx]
          exact List.mem_append_left _ (MemPlace.mem_row.2 ⟨0, by rw [hC]; omega, rfl⟩)
        · have hjl : j < len * 4 := by
            have := (List.getElem?_eq_some_iff.1 hj).1
            rwa [flatten_len _ hce, hcl] at this
          have hd : j / 4 < len := by omega
          have e := flatten_at _ (j / 4) _ hce (hcat _ hd) (j % 4) (by omega)
          rw [show j / 4 * 4 + j % 4 = j from by omega, hj] at e
          have := (hF _ hd).2.2.2.2 (j % 4) u e.symm
          rw [add_pos, add_pos, Nat.add_assoc, show j / 4 * 4 + j % 4 = j from by omega] at this
          exact this
    · have hj : j < len := by
        have := (List.getElem?_eq_some_iff.1 he).1
        rwa [hhl] at this
      rw [hhat j hj] at he
      rw [hcat j hj] at hc
      injection he with he
      injection hc with hc
      subst he hc
      exact (hF j hj).1
    · have hs : ∀ k, k ≤ len → sumP ((List.range' (len - k) k).map fun i => (F i).1) ≤ Rows.uptoBulkAll ((List.range' (len - k) k).map D) := fun k => by
        induction k with
        | zero => intro _; simp [sumP]
        | succ k ih =>
          intro hk
          have h1 := ih (by omega)
          have h2 := (hF (len - (k + 1)) (by omega)).2.2.2.1
          rw [List.range'_succ, List.map_cons, List.map_cons, show len - (k + 1) + 1 = len - k from by omega]
          simp only [sumP, Rows.uptoBulkAll]
          omega
      have h1 := hs len (Nat.le_refl _)
      rw [Nat.sub_self, ← List.range_eq_range'] at h1
      rw [hx]
      have h2 := (bulk_slice ((List.range len).map D) ((List.range (m - len)).map fun j => D (len + j))).2
      have h3 : Rows.uptoBulk (DataW.slice ((List.range len).map D) ((List.range (m - len)).map fun j => D (len + j))) = Rows.uptoBulk (DataW.slice ((List.range len).map D) ((List.range (m - len)).map fun j => D (len + j)), MemPlace.row a (m * Try.prog.cellsOf 73) ++ (List.range m).flatMap Pl).1 := rfl
      rw [← h3]
      omega
end
end Go.Proofs.Ytfiogjdjcocbnaa
