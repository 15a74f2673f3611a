/- Arguments opened: bytes, lists of bytes. -/
import Derived.Test.YtgknihcpmpfocaaDoorShaLP
import Derived.Test.YtgknihcpmpfocaaDoorVfKP
import Derived.Deep.Slices
import Derived.Deep.Fields
import Derived.ChangeSame
import Derived.Carry
import Derived.OpenShut
import Derived.WideShapes
import Derived.Laws.FloatArith
import Derived.Lib.SmallJoins
namespace Go.Proofs.YtgknihcpmpfocaaDoor
open Go.RowKit Go.ChangeShapes Go.WideShapes Go.Deep Go.Joins
theorem bulk_one {H : Type} (d : DataW H) : 1 ≤ Rows.uptoBulk d := by
  cases d with
  | lit l => cases l <;> simp [Rows.uptoBulk]
  | nil => simp [Rows.uptoBulk]
  | ptr d => simp [Rows.uptoBulk]
  | slice elems spare => simp [Rows.uptoBulk]
  | agg parts => simp [Rows.uptoBulk]
  | iface t d => simp [Rows.uptoBulk]
  | map entries => simp [Rows.uptoBulk]
  | held h => simp [Rows.uptoBulk]
theorem bulk_len {H : Type} (l : List (DataW H)) : l.length ≤ Rows.uptoBulkAll l := by
  induction l with
  | nil => simp [Rows.uptoBulkAll]
  | cons x r ih => have := bulk_one x; simp only [Rows.uptoBulkAll, List.length_cons]; omega
theorem bulk_slice {H : Type} (elems spare : List (DataW H)) : elems.length + 1 ≤ Rows.uptoBulk (.slice elems spare) ∧ Rows.uptoBulkAll elems + 1 ≤ Rows.uptoBulk (.slice elems spare) := by
  have h1 := bulk_len elems
  simp only [Rows.uptoBulk]
  omega
theorem spot_none {w : World} {a : Addr} {v : Value} (h : w.cell? a = some v) : a.spot = none := by
  obtain ⟨b, o, sp⟩ := a
  cases sp with
  | none => rfl
  | some s =>
    exfalso
    unfold World.cell? at h
    split at h <;> simp at h
/-- Values and letters that records hold, at most. -/
def sumR {E : Type} (f : E → Nat) : List E → Nat
  | [] => 0
  | e :: r => f e + sumR f r
theorem sumR_mem {E : Type} (f : E → Nat) : ∀ (l : List E), ∀ e ∈ l, f e ≤ sumR f l
  | [], _, h => by cases h
  | x :: r, e, h => by
    rcases List.mem_cons.1 h with rfl | h
    · simp only [sumR]; omega
    · have := sumR_mem f r e h; simp only [sumR]; omega
theorem sumR_len {E : Type} {f : E → Nat} (hf : ∀ e, 1 ≤ f e) : ∀ l : List E, l.length ≤ sumR f l
  | [] => Nat.zero_le _
  | x :: r => by have := sumR_len hf r; have := hf x; simp only [sumR, List.length_cons]; omega
section
variable {H : Type} {enc : TypeId × Value → H} {W : World}
/-- A slice of bytes, opened. -/
theorem open_bytesv {fuel : Nat} {v : Value} {x : DataW H × List MemPlace} (h : DataW.trod enc Tryd.prog W 0 (fun _ => true) true fuel 22 [v] = some x) (hlt : ∀ p ∈ x.2, p.block < W.heap.size) :
    ∃ l, BytesC (fun k => k < W.heap.size) W v l ∧ l.length + 1 ≤ Rows.uptoBulk x.1 := by
  rcases open_slice Tryd.underlying22 h with ⟨hcs, hx⟩ | ⟨a, len, cap, m, n, D, Pl, hcs, hb, hl, hm, hmm, hx, hi⟩
  · injection hcs with hcs _
    subst hcs hx
    exact ⟨[], Or.inl ⟨rfl, rfl⟩, by simp [Rows.uptoBulk]⟩
  · injection hcs with hcs _
    subst hcs
    rw [if_pos rfl] at hmm
    subst hmm
    have hC : Tryd.prog.cellsOf 5 = 1 := by kernel_rfl
    have key : ∀ i, ∃ u : UInt8, i < len → W.cell? (a.add i) = some (.int .u8 (u.toNat : Int)) := fun i => by
      by_cases hil : i < len
      · obtain ⟨cs', hc, ht⟩ := hi i (by omega)
        obtain ⟨c, hcs', _, hwf⟩ := DataW.trod_int Tryd.underlying5 ht
        obtain ⟨_, _, hat⟩ := World.cells?_some hc
        have h1 := hat 0 (by rw [hC]; omega)
        rw [hcs', hC, Nat.mul_one] at h1
        have e0 : (a.add i).add 0 = a.add i := add_none _
        rw [e0] at h1
        obtain ⟨b1, b2⟩ := bounds_u8 hwf
        refine ⟨c.toNat.toUInt8, fun _ => ?_⟩
        rw [h1]
        have e3 : (c.toNat.toUInt8).toNat = c.toNat := by
          rw [Nat.toUInt8, UInt8.toNat_ofNat']; omega
        have e4 : ((c.toNat.toUInt8).toNat : Int) = c := by rw [e3]; exact Int.toNat_of_nonneg b1
        rw [e4]; rfl
      · exact ⟨0, fun h => absurd h hil⟩
    obtain ⟨F, hF⟩ := Classical.axiomOfChoice key
    have hlen : ((List.range len).map F).length = len := by simp
    refine ⟨(List.range len).map F, Or.inr ⟨a, m, by rw [hlen], by rw [hlen]; exact hl, hm, ?_, fun j u hj => ?_⟩, ?_⟩
    · by_cases h0 : len = 0
      · left; subst h0; rfl
      · right
        refine hlt (.cell a.block (a.off + 0)) ?_
        rw [hx]
        refine List.mem_append_left _ (MemPlace.mem_row.2 ⟨0, ?_, rfl⟩)
        rw [hC]; omega
    · have hjl : j < len := by
        have := (List.getElem?_eq_some_iff.1 hj).1
        rw [bv_len, hlen] at this; exact this
      have hu : (bv ((List.range len).map F))[j]? = some (.int .u8 ((F j).toNat : Int)) := by
        unfold bv
        rw [List.getElem?_map, List.getElem?_map, List.getElem?_range hjl]
        rfl
      rw [hu] at hj
      rw [← hj]
      exact hF j hjl
    · rw [hx, hlen]
      have := (bulk_slice ((List.range len).map D) ((List.range (m - len)).map fun j => D (len + j))).1
      simpa using this
set_option maxRecDepth 100000 in
theorem open_recs {E : Type} [Inhabited E] {rel : (Nat → Prop) → World → E → List Value → Prop} {sz : Nat} {t ts : TypeId} (hts : Tryd.prog.underlying ts = some (.slice t)) (hC : Tryd.prog.cellsOf t = sz) (hsz : 0 < sz) (f : E → Nat)
    (op : ∀ (n : Nat) (cs : List Value) (x : DataW H × List MemPlace), DataW.trod enc Tryd.prog W 0 (fun _ => true) true n t cs = some x → (∀ p ∈ x.2, p.block < W.heap.size) →
      ∃ e : E, rel (fun k => k < W.heap.size) W e cs ∧ cs.length = sz ∧ (∀ u ∈ cs, u.oneCell' = true) ∧ f e ≤ Rows.uptoBulk x.1)
    {fuel : Nat} {v : Value} {x : DataW H × List MemPlace} (h : DataW.trod enc Tryd.prog W 0 (fun _ => true) true fuel ts [v] = some x) (hlt : ∀ p ∈ x.2, p.block < W.heap.size) :
    ∃ l, RowsC rel sz (fun k => k < W.heap.size) W v l ∧ sumR f l ≤ Rows.uptoBulk x.1 := by
  rcases open_slice hts h with ⟨hcs, hx⟩ | ⟨a, len, cap, m, n, D, Pl, hcs, hb, hl, hm, hmm, hx, hi⟩
  · injection hcs with hcs _
    subst hcs hx
    exact ⟨[], ⟨[], rfl, fun _ h => (by cases h), CellsC.nil _ _ _ _ _, fun j e cs h _ => by simp at h⟩, Nat.zero_le _⟩
  · injection hcs with hcs _
    subst hcs
    rw [if_pos rfl] at hmm
    subst hmm
    have key : ∀ i, ∃ q : E × List Value, i < len → rel (fun k => k < W.heap.size) W q.1 q.2 ∧ q.2.length = sz ∧ (∀ u ∈ q.2, u.oneCell' = true) ∧ f q.1 ≤ Rows.uptoBulk (D i) ∧ ∀ j u, q.2[j]? = some u → W.cell? ((a.add (i * sz)).add j) = some u := fun i => by
      by_cases hil : i < len
      · obtain ⟨cs', hc, ht⟩ := hi i (by omega)
        obtain ⟨k, r1, r2, r3, r4⟩ := op _ _ _ ht (fun p hp => hlt p (by rw [hx]; exact List.mem_append_right _ (List.mem_flatMap.2 ⟨i, List.mem_range.2 (by omega), hp⟩)))
        obtain ⟨_, _, hat⟩ := World.cells?_some hc
        refine ⟨(k, cs'), fun _ => ⟨r1, r2, r3, r4, fun j u hu => ?_⟩⟩
        have hj : j < sz := by rw [← r2]; exact (List.getElem?_eq_some_iff.1 hu).1
        have h1 := hat j (by rw [hC]; exact hj)
        rw [hC] at h1
        rw [h1]; exact hu
      · exact ⟨(default, []), fun h => absurd h hil⟩
    obtain ⟨F, hF⟩ := Classical.axiomOfChoice key
    have hhl : ((List.range len).map fun i => (F i).1).length = len := by simp
    have hcl : ((List.range len).map fun i => (F i).2).length = len := by simp
    have hhat : ∀ i, i < len → ((List.range len).map fun i => (F i).1)[i]? = some (F i).1 := fun i hi => by simp [hi]
    have hcat : ∀ i, i < len → ((List.range len).map fun i => (F i).2)[i]? = some (F i).2 := fun i hi => by simp [hi]
    have hce : ∀ cs ∈ (List.range len).map fun i => (F i).2, cs.length = sz := fun cs hcs => by
      obtain ⟨i, hi, rfl⟩ := List.mem_map.1 hcs
      exact (hF i (List.mem_range.1 hi)).2.1
    refine ⟨(List.range len).map fun i => (F i).1, ⟨(List.range len).map fun i => (F i).2, by rw [hhl, hcl], hce, ?_, fun j e cs he hc => ?_⟩, ?_⟩
    · by_cases h0 : len = 0
      · subst h0; exact CellsC.nil _ _ _ _ _
      · have h00 := hF 0 (by omega)
        have hsp : a.spot = none := by
          have hl0 : 0 < (F 0).2.length := by rw [h00.2.1]; exact hsz
          have := h00.2.2.2.2 0 _ (List.getElem?_eq_getElem hl0)
          rw [Nat.zero_mul, add_none, add_none] at this
          exact spot_none this
        obtain ⟨g, o, sp⟩ := a
        simp only at hsp
        subst hsp
        refine ⟨by rw [flatten_len _ hce, hcl, hhl], fun u hu => ?_, Or.inr ⟨g, o, m, by rw [hhl], ?_, by rw [hhl]; exact hl, hm, fun j u hj => ?_⟩⟩
        · obtain ⟨cs, hcs, hu⟩ := List.mem_flatten.1 hu
          obtain ⟨i, hi, rfl⟩ := List.mem_map.1 hcs
          exact (hF i (List.mem_range.1 hi)).2.2.1 u hu
        · refine hlt (.cell g (o + 0)) ?_
          rw [hx]
          exact List.mem_append_left _ (MemPlace.mem_row.2 ⟨0, by rw [hC]; exact Nat.mul_pos (by omega) hsz, rfl⟩)
        · have hjl : j < len * sz := by
            have := (List.getElem?_eq_some_iff.1 hj).1
            rwa [flatten_len _ hce, hcl] at this
          have hd : j / sz < len := Nat.div_lt_of_lt_mul (by rw [Nat.mul_comm]; exact hjl)
          have hdm : j / sz * sz + j % sz = j := Nat.div_add_mod' j sz
          have e := flatten_at _ (j / sz) _ hce (hcat _ hd) (j % sz) (Nat.mod_lt _ hsz)
          rw [hdm, hj] at e
          have := (hF _ hd).2.2.2.2 (j % sz) u e.symm
          rw [add_pos, add_pos, Nat.add_assoc, hdm] at this
          exact this
    · have hj : j < len := by
        have := (List.getElem?_eq_some_iff.1 he).1
        rwa [hhl] at this
      rw [hhat j hj] at he
      rw [hcat j hj] at hc
      injection he with he
      injection hc with hc
      subst he hc
      exact (hF j hj).1
    · have hs : ∀ k, k ≤ len → sumR f ((List.range' (len - k) k).map fun i => (F i).1) ≤ Rows.uptoBulkAll ((List.range' (len - k) k).map D) := fun k => by
        induction k with
        | zero => intro _; simp [sumR]
        | succ k ih =>
          intro hk
          have h1 := ih (by omega)
          have h2 := (hF (len - (k + 1)) (by omega)).2.2.2.1
          rw [List.range'_succ, List.map_cons, List.map_cons, show len - (k + 1) + 1 = len - k from by omega]
          simp only [sumR, Rows.uptoBulkAll]
          omega
      have h1 := hs len (Nat.le_refl _)
      rw [Nat.sub_self, ← List.range_eq_range'] at h1
      rw [hx]
      have h2 := (bulk_slice ((List.range len).map D) ((List.range (m - len)).map fun j => D (len + j))).2
      have h3 : Rows.uptoBulk (DataW.slice ((List.range len).map D) ((List.range (m - len)).map fun j => D (len + j))) = Rows.uptoBulk (DataW.slice ((List.range len).map D) ((List.range (m - len)).map fun j => D (len + j)), MemPlace.row a (m * Tryd.prog.cellsOf t) ++ (List.range m).flatMap Pl).1 := rfl
      rw [← h3]
      omega
/-- A list of bytes in a slice of such. -/
def chunkR (S : Nat → Prop) (w : World) (l : List UInt8) (cs : List Value) : Prop := ∃ v, cs = [v] ∧ BytesC S w v l
theorem chunk_op (n : Nat) (cs : List Value) (x : DataW H × List MemPlace) (h : DataW.trod enc Tryd.prog W 0 (fun _ => true) true n 22 cs = some x) (hlt : ∀ p ∈ x.2, p.block < W.heap.size) :
    ∃ e : List UInt8, chunkR (fun k => k < W.heap.size) W e cs ∧ cs.length = 1 ∧ (∀ u ∈ cs, u.oneCell' = true) ∧ e.length + 1 ≤ Rows.uptoBulk x.1 := by
  obtain ⟨u, rfl⟩ : ∃ u, cs = [u] := by
    rcases open_slice Tryd.underlying22 h with ⟨hcs, _⟩ | ⟨_, _, _, _, _, _, _, hcs, _⟩
    · exact ⟨_, hcs⟩
    · exact ⟨_, hcs⟩
  obtain ⟨l, h1, h2⟩ := open_bytesv h hlt
  refine ⟨l, ⟨_, rfl, h1⟩, rfl, fun u hu => ?_, h2⟩
  rw [List.mem_singleton] at hu
  subst hu
  obtain ⟨a, c, e⟩ := h1.shape
  rw [e]; rfl
theorem open_chunksv {fuel : Nat} {v : Value} {x : DataW H × List MemPlace} (h : DataW.trod enc Tryd.prog W 0 (fun _ => true) true fuel 24 [v] = some x) (hlt : ∀ p ∈ x.2, p.block < W.heap.size) :
    ∃ ls, ChunksC (fun k => k < W.heap.size) W v ls ∧ sumR (fun l => l.length + 1) ls ≤ Rows.uptoBulk x.1 := by
  obtain ⟨ls, hr, hb⟩ := open_recs (rel := chunkR) (sz := 1) Tryd.underlying24 (by kernel_rfl) (by decide) (fun l => l.length + 1) chunk_op h hlt
  refine ⟨ls, ?_, hb⟩
  obtain ⟨css, k1, k2, k3, k4⟩ := hr
  obtain ⟨a0, c0, e0⟩ := k3.shape
  rcases open_slice Tryd.underlying24 h with ⟨hcs, hx⟩ | ⟨a, len, cap, m, n, D, Pl, hcs, hb, hl, hm, hmm, hx, hi⟩
  · injection hcs with hcs _
    subst hcs
    injection e0 with _ e1 _
    exact Or.inl ⟨rfl, List.length_eq_zero_iff.1 e1.symm⟩
  · injection hcs with hcs _
    subst hcs
    rw [if_pos rfl] at hmm
    subst hmm
    injection e0 with e1 e2 e3
    subst e1 e2 e3
    by_cases h0 : ls.length = 0
    · exact Or.inr ⟨a, _, rfl, hl, hm, Or.inl (List.length_eq_zero_iff.1 h0), fun j l hj => by rw [List.length_eq_zero_iff.1 h0] at hj; simp at hj⟩
    · obtain ⟨g, o, ha, hg, h3, h4, h5⟩ := k3.at (by omega)
      injection ha with ha
      subst ha
      refine Or.inr ⟨_, _, rfl, hl, hm, Or.inr hg, fun j l hj => ?_⟩
      have hjl : j < css.length := by rw [k1]; exact (List.getElem?_eq_some_iff.1 hj).1
      obtain ⟨vj, e1, e2⟩ := k4 j l css[j] hj (List.getElem?_eq_getElem hjl)
      refine ⟨vj, ?_, e2⟩
      rw [add_pos]
      refine h5 j vj ?_
      have hf := flatten_at css j css[j] k2 (List.getElem?_eq_getElem hjl) 0 (by omega)
      rw [Nat.mul_one, Nat.add_zero] at hf
      rw [hf, e1]; rfl
end
end Go.Proofs.YtgknihcpmpfocaaDoor
