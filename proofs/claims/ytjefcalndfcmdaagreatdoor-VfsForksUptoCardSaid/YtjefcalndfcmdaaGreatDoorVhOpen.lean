/- Arguments opened: bytes, two ints, calls. -/
import Derived.Test.YtjefcalndfcmdaaGreatDoorVhA
import Derived.Deep.Slices
import Derived.Deep.Fields
import Derived.ChangeSame
import Derived.Carry
import Derived.OpenShut
import Derived.WideShapes
import Derived.Laws.FloatArith
import Derived.Lib.SmallJoins
namespace Go.Proofs.YtjefcalndfcmdaaGreatDoor
open Go.RowKit Go.ChangeShapes Go.WideShapes Go.Deep Go.Joins
theorem bulk_one {H : Type} (d : DataW H) : 1 ≤ Rows.uptoBulk d := by
  cases d with
  | lit l => cases l <;> simp [Rows.uptoBulk]
  | nil => simp [Rows.uptoBulk]
  | ptr d => simp [Rows.uptoBulk]
  | slice elems spare => simp [Rows.uptoBulk]
  | agg parts => simp [Rows.uptoBulk]
  | iface t d => simp [Rows.uptoBulk]
  | map entries => simp [Rows.uptoBulk]
  | held h => simp [Rows.uptoBulk]
theorem bulk_len {H : Type} (l : List (DataW H)) : l.length ≤ Rows.uptoBulkAll l := by
  induction l with
  | nil => simp [Rows.uptoBulkAll]
  | cons x r ih => have := bulk_one x; simp only [Rows.uptoBulkAll, List.length_cons]; omega
theorem bulk_slice {H : Type} (elems spare : List (DataW H)) : elems.length + 1 ≤ Rows.uptoBulk (.slice elems spare) ∧ Rows.uptoBulkAll elems + 1 ≤ Rows.uptoBulk (.slice elems spare) := by
  have h1 := bulk_len elems
  simp only [Rows.uptoBulk]
  omega
theorem spot_none {w : World} {a : Addr} {v : Value} (h : w.cell? a = some v) : a.spot = none := by
  obtain ⟨b, o, sp⟩ := a
  cases sp with
  | none => rfl
  | some s =>
    exfalso
    unfold World.cell? at h
    split at h <;> simp at h
instance : Inhabited OpL := ⟨⟨0, [], [], [], 0, 0⟩⟩
/-- Values and letters that records hold, at most. -/
def sumR {E : Type} (f : E → Nat) : List E → Nat
  | [] => 0
  | e :: r => f e + sumR f r
theorem sumR_mem {E : Type} (f : E → Nat) : ∀ (l : List E), ∀ e ∈ l, f e ≤ sumR f l
  | [], _, h => by cases h
  | x :: r, e, h => by
    rcases List.mem_cons.1 h with rfl | h
    · simp only [sumR]; omega
    · have := sumR_mem f r e h; simp only [sumR]; omega
theorem sumR_len {E : Type} {f : E → Nat} (hf : ∀ e, 1 ≤ f e) : ∀ l : List E, l.length ≤ sumR f l
  | [] => Nat.zero_le _
  | x :: r => by have := sumR_len hf r; have := hf x; simp only [sumR, List.length_cons]; omega
/-- Values and letters that a call holds, at most. -/
def opB (o : OpL) : Nat := o.name.length + o.dest.length + o.data.length + 1
theorem opB_pos (o : OpL) : 1 ≤ opB o := by unfold opB; omega
def opRelB (S : Nat → Prop) (w : World) (o : OpL) (cs : List Value) : Prop := opRel S w o cs ∧ (-9223372036854775808 ≤ o.n ∧ o.n ≤ 9223372036854775807) ∧ (-9223372036854775808 ≤ o.m ∧ o.m ≤ 9223372036854775807)
theorem opsB_split {S : Nat → Prop} {w : World} {v : Value} {l : List OpL} (h : RowsC opRelB 6 S w v l) : OpsC S w v l ∧ ∀ e ∈ l, (-9223372036854775808 ≤ e.n ∧ e.n ≤ 9223372036854775807) ∧ (-9223372036854775808 ≤ e.m ∧ e.m ≤ 9223372036854775807) := by
  obtain ⟨css, h1, h2, h3, h4⟩ := h
  refine ⟨⟨css, h1, h2, h3, fun j e cs he hc => (h4 j e cs he hc).1⟩, fun e he => ?_⟩
  obtain ⟨j, hj, rfl⟩ := List.mem_iff_getElem.1 he
  exact (h4 j _ css[j] (List.getElem?_eq_getElem hj) (List.getElem?_eq_getElem (by omega))).2
theorem opOk_of {o : OpL} (hn : (-9223372036854775808 ≤ o.n ∧ o.n ≤ 9223372036854775807) ∧ (-9223372036854775808 ≤ o.m ∧ o.m ≤ 9223372036854775807)) (hb : opB o ≤ 1048576) : OpOk o := by
  unfold opB at hb
  exact ⟨by omega, by omega, by omega, hn.1, hn.2⟩
theorem opsOk_of {l : List OpL} (hn : ∀ e ∈ l, (-9223372036854775808 ≤ e.n ∧ e.n ≤ 9223372036854775807) ∧ (-9223372036854775808 ≤ e.m ∧ e.m ≤ 9223372036854775807)) (hb : sumR opB l ≤ 1048576) : (∀ e ∈ l, OpOk e) ∧ l.length ≤ 1048576 :=
  ⟨fun e he => opOk_of (hn e he) (Nat.le_trans (sumR_mem opB l e he) hb), Nat.le_trans (sumR_len opB_pos l) hb⟩
section
variable {H : Type} {enc : TypeId × Value → H} {W : World}
/-- A slice of bytes, opened. -/
theorem open_bytesv {fuel : Nat} {v : Value} {x : DataW H × List MemPlace} (h : DataW.trod enc Tryz.prog W 0 (fun _ => true) true fuel 35 [v] = some x) (hlt : ∀ p ∈ x.2, p.block < W.heap.size) :
    ∃ l, BytesC (fun k => k < W.heap.size) W v l ∧ l.length + 1 ≤ Rows.uptoBulk x.1 := by
  rcases open_slice Tryz.underlying35 h with ⟨hcs, hx⟩ | ⟨a, len, cap, m, n, D, Pl, hcs, hb, hl, hm, hmm, hx, hi⟩
  · injection hcs with hcs _
    subst hcs hx
    exact ⟨[], Or.inl ⟨rfl, rfl⟩, by simp [Rows.uptoBulk]⟩
  · injection hcs with hcs _
    subst hcs
    rw [if_pos rfl] at hmm
    subst hmm
    have hC : Tryz.prog.cellsOf 5 = 1 := by kernel_rfl
    have key : ∀ i, ∃ u : UInt8, i < len → W.cell? (a.add i) = some (.int .u8 (u.toNat : Int)) := fun i => by
      by_cases hil : i < len
      · obtain ⟨cs', hc, ht⟩ := hi i (by omega)
        obtain ⟨c, hcs', _, hwf⟩ := DataW.trod_int Tryz.underlying5 ht
        obtain ⟨_, _, hat⟩ := World.cells?_some hc
        have h1 := hat 0 (by rw [hC]; omega)
        rw [hcs', hC, Nat.mul_one] at h1
        have e0 : (a.add i).add 0 = a.add i := add_none _
        rw [e0] at h1
        obtain ⟨b1, b2⟩ := bounds_u8 hwf
        refine ⟨c.toNat.toUInt8, fun _ => ?_⟩
        rw [h1]
        have e3 : (c.toNat.toUInt8).toNat = c.toNat := by
          rw [Nat.toUInt8, UInt8.toNat_ofNat']; omega
        have e4 : ((c.toNat.toUInt8).toNat : Int) = c := by rw [e3]; exact Int.toNat_of_nonneg b1
        rw [e4]; rfl
      · exact ⟨0, fun h => absurd h hil⟩
    obtain ⟨F, hF⟩ := Classical.axiomOfChoice key
    have hlen : ((List.range len).map F).length = len := by simp
    refine ⟨(List.range len).map F, Or.inr ⟨a, m, by rw [hlen], by rw [hlen]; exact hl, hm, ?_, fun j u hj => ?_⟩, ?_⟩
    · by_cases h0 : len = 0
      · left; subst h0; rfl
      · right
        refine hlt (.cell a.block (a.off + 0)) ?_
        rw [hx]
        refine List.mem_append_left _ (MemPlace.mem_row.2 ⟨0, ?_, rfl⟩)
        rw [hC]; omega
    · have hjl : j < len := by
        have := (List.getElem?_eq_some_iff.1 hj).1
        rw [bv_len, hlen] at this; exact this
      have hu : (bv ((List.range len).map F))[j]? = some (.int .u8 ((F j).toNat : Int)) := by
        unfold bv
        rw [List.getElem?_map, List.getElem?_map, List.getElem?_range hjl]
        rfl
      rw [hu] at hj
      rw [← hj]
      exact hF j hjl
    · rw [hx, hlen]
      have := (bulk_slice ((List.range len).map D) ((List.range (m - len)).map fun j => D (len + j))).1
      simpa using this
set_option maxRecDepth 100000 in
theorem open_two {base : Nat} {v : Value} {d : DataW H} {p : List MemPlace} (hv : Value.okWide Tryz.prog W .any base 50 v) {fuel : Nat} (h : DataW.trod enc Tryz.prog W 0 (fun _ => true) true fuel 50 v.cells.toList = some (d, p)) :
    ∃ s0 s1 : Int, v = .agg #[.int .i64 s0, .int .i64 s1] := by
  have hC : Tryz.prog.cellsOf 50 = 2 := by kernel_rfl
  have hE : Tryz.prog.cellsOf 3 = 1 := by kernel_rfl
  obtain ⟨cs, rfl, hsz, _⟩ : ∃ cs, v = .agg cs ∧ cs.size = Tryz.prog.cellsOf 50 ∧ Row.okWide Tryz.prog W .any base 50 cs := by
    simp only [Value.okWide, Tryz.underlying50] at hv
    exact hv
  rw [hC] at hsz
  obtain ⟨l⟩ := cs
  match l, hsz with
  | [c0, c1], _ =>
    have hh : DataW.trod enc Tryz.prog W 0 (fun _ => true) true fuel 50 [c0, c1] = some (d, p) := by simpa [Value.cells] using h
    obtain ⟨xs, m, _, hx, _, hlen, hi⟩ := DataW.trod_array Tryz.underlying50 hh
    rw [hE] at hi
    match xs, hlen with
    | [y0, y1], _ =>
      have h0 : DataW.trod enc Tryz.prog W 0 (fun _ => true) true m 3 [c0] = some y0 := by simpa using hi 0 (by omega)
      have h1 : DataW.trod enc Tryz.prog W 0 (fun _ => true) true m 3 [c1] = some y1 := by simpa using hi 1 (by omega)
      obtain ⟨s0, e0, _, w0⟩ := DataW.trod_int Tryz.underlying3 h0
      obtain ⟨s1, e1, _, w1⟩ := DataW.trod_int Tryz.underlying3 h1
      injection e0 with e0 _
      injection e1 with e1 _
      exact ⟨s0, s1, by rw [e0, e1]⟩
set_option maxRecDepth 100000 in
theorem open_recs {E : Type} [Inhabited E] {rel : (Nat → Prop) → World → E → List Value → Prop} {sz : Nat} {t ts : TypeId} (hts : Tryz.prog.underlying ts = some (.slice t)) (hC : Tryz.prog.cellsOf t = sz) (hsz : 0 < sz) (f : E → Nat)
    (op : ∀ (n : Nat) (cs : List Value) (x : DataW H × List MemPlace), DataW.trod enc Tryz.prog W 0 (fun _ => true) true n t cs = some x → (∀ p ∈ x.2, p.block < W.heap.size) →
      ∃ e : E, rel (fun k => k < W.heap.size) W e cs ∧ cs.length = sz ∧ (∀ u ∈ cs, u.oneCell' = true) ∧ f e ≤ Rows.uptoBulk x.1)
    {fuel : Nat} {v : Value} {x : DataW H × List MemPlace} (h : DataW.trod enc Tryz.prog W 0 (fun _ => true) true fuel ts [v] = some x) (hlt : ∀ p ∈ x.2, p.block < W.heap.size) :
    ∃ l, RowsC rel sz (fun k => k < W.heap.size) W v l ∧ sumR f l ≤ Rows.uptoBulk x.1 := by
  rcases open_slice hts h with ⟨hcs, hx⟩ | ⟨a, len, cap, m, n, D, Pl, hcs, hb, hl, hm, hmm, hx, hi⟩
  · injection hcs with hcs _
    subst hcs hx
    exact ⟨[], ⟨[], rfl, fun _ h => (by cases h), CellsC.nil _ _ _ _ _, fun j e cs h _ => by simp at h⟩, Nat.zero_le _⟩
  · injection hcs with hcs _
    subst hcs
    rw [if_pos rfl] at hmm
    subst hmm
    have key : ∀ i, ∃ q : E × List Value, i < len → rel (fun k => k < W.heap.size) W q.1 q.2 ∧ q.2.length = sz ∧ (∀ u ∈ q.2, u.oneCell' = true) ∧ f q.1 ≤ Rows.uptoBulk (D i) ∧ ∀ j u, q.2[j]? = some u → W.cell? ((a.add (i * sz)).add j) = some u := fun i => by
      by_cases hil : i < len
      · obtain ⟨cs', hc, ht⟩ := hi i (by omega)
        obtain ⟨k, r1, r2, r3, r4⟩ := op _ _ _ ht (fun p hp => hlt p (by rw [hx]; exact List.mem_append_right _ (List.mem_flatMap.2 ⟨i, List.mem_range.2 (by omega), hp⟩)))
        obtain ⟨_, _, hat⟩ := World.cells?_some hc
        refine ⟨(k, cs'), fun _ => ⟨r1, r2, r3, r4, fun j u hu => ?_⟩⟩
        have hj : j < sz := by rw [← r2]; exact (List.getElem?_eq_some_iff.1 hu).1
        have h1 := hat j (by rw [hC]; exact hj)
        rw [hC] at h1
        rw [h1]; exact hu
      · exact ⟨(default, []), fun h => absurd h hil⟩
    obtain ⟨F, hF⟩ := Classical.axiomOfChoice key
    have hhl : ((List.range len).map fun i => (F i).1).length = len := by simp
    have hcl : ((List.range len).map fun i => (F i).2).length = len := by simp
    have hhat : ∀ i, i < len → ((List.range len).map fun i => (F i).1)[i]? = some (F i).1 := fun i hi => by simp [hi]
    have hcat : ∀ i, i < len → ((List.range len).map fun i => (F i).2)[i]? = some (F i).2 := fun i hi => by simp [hi]
    have hce : ∀ cs ∈ (List.range len).map fun i => (F i).2, cs.length = sz := fun cs hcs => by
      obtain ⟨i, hi, rfl⟩ := List.mem_map.1 hcs
      exact (hF i (List.mem_range.1 hi)).2.1
    refine ⟨(List.range len).map fun i => (F i).1, ⟨(List.range len).map fun i => (F i).2, by rw [hhl, hcl], hce, ?_, fun j e cs he hc => ?_⟩, ?_⟩
    · by_cases h0 : len = 0
      · subst h0; exact CellsC.nil _ _ _ _ _
      · have h00 := hF 0 (by omega)
        have hsp : a.spot = none := by
          have hl0 : 0 < (F 0).2.length := by rw [h00.2.1]; exact hsz
          have := h00.2.2.2.2 0 _ (List.getElem?_eq_getElem hl0)
          rw [Nat.zero_mul, add_none, add_none] at this
          exact spot_none this
        obtain ⟨g, o, sp⟩ := a
        simp only at hsp
        subst hsp
        refine ⟨by rw [flatten_len _ hce, hcl, hhl], fun u hu => ?_, Or.inr ⟨g, o, m, by rw [hhl], ?_, by rw [hhl]; exact hl, hm, fun j u hj => ?_⟩⟩
        · obtain ⟨cs, hcs, hu⟩ := List.mem_flatten.1 hu
          obtain ⟨i, hi, rfl⟩ := List.mem_map.1 hcs
          exact (hF i (List.mem_range.1 hi)).2.2.1 u hu
        · refine hlt (.cell g (o + 0)) ?_
          rw [hx]
          exact List.mem_append_left _ (MemPlace.mem_row.2 ⟨0, by rw [hC]; exact Nat.mul_pos (by omega) hsz, rfl⟩)
        · have hjl : j < len * sz := by
            have := (List.getElem?_eq_some_iff.1 hj).1
            rwa [flatten_len _ hce, hcl] at this
          have hd : j / sz < len := Nat.div_lt_of_lt_mul (by rw [Nat.mul_comm]; exact hjl)
          have hdm : j / sz * sz + j % sz = j := Nat.div_add_mod' j sz
          have e := flatten_at _ (j / sz) _ hce (hcat _ hd) (j % sz) (Nat.mod_lt _ hsz)
          rw [hdm, hj] at e
          have := (hF _ hd).2.2.2.2 (j % sz) u e.symm
          rw [add_pos, add_pos, Nat.add_assoc, hdm] at this
          exact this
    · have hj : j < len := by
        have := (List.getElem?_eq_some_iff.1 he).1
        rwa [hhl] at this
      rw [hhat j hj] at he
      rw [hcat j hj] at hc
      injection he with he
      injection hc with hc
      subst he hc
      exact (hF j hj).1
    · have hs : ∀ k, k ≤ len → sumR f ((List.range' (len - k) k).map fun i => (F i).1) ≤ Rows.uptoBulkAll ((List.range' (len - k) k).map D) := fun k => by
        induction k with
        | zero => intro _; simp [sumR]
        | succ k ih =>
          intro hk
          have h1 := ih (by omega)
          have h2 := (hF (len - (k + 1)) (by omega)).2.2.2.1
          rw [List.range'_succ, List.map_cons, List.map_cons, show len - (k + 1) + 1 = len - k from by omega]
          simp only [sumR, Rows.uptoBulkAll]
          omega
      have h1 := hs len (Nat.le_refl _)
      rw [Nat.sub_self, ← List.range_eq_range'] at h1
      rw [hx]
      have h2 := (bulk_slice ((List.range len).map D) ((List.range (m - len)).map fun j => D (len + j))).2
      have h3 : Rows.uptoBulk (DataW.slice ((List.range len).map D) ((List.range (m - len)).map fun j => D (len + j))) = Rows.uptoBulk (DataW.slice ((List.range len).map D) ((List.range (m - len)).map fun j => D (len + j)), MemPlace.row a (m * Tryz.prog.cellsOf t) ++ (List.range m).flatMap Pl).1 := rfl
      rw [← h3]
      omega
/-- A call, opened. -/
theorem op_one : oneCellFields Tryz.prog #[{ name := "Kind", type := 3, offset := 0, embedded := false, tag := "", pkgPath := "", byteOffset := 0 }, { name := "Name", type := 9, offset := 1, embedded := false, tag := "", pkgPath := "", byteOffset := 8 }, { name := "To", type := 9, offset := 2, embedded := false, tag := "", pkgPath := "", byteOffset := 24 },
    { name := "Data", type := 35, offset := 3, embedded := false, tag := "", pkgPath := "", byteOffset := 40 }, { name := "N", type := 3, offset := 4, embedded := false, tag := "", pkgPath := "", byteOffset := 64 }, { name := "M", type := 3, offset := 5, embedded := false, tag := "", pkgPath := "", byteOffset := 72 }] = true := by kernel_rfl
set_option maxRecDepth 100000 in
theorem open_op {fuel : Nat} {cs : List Value} {x : DataW H × List MemPlace} (h : DataW.trod enc Tryz.prog W 0 (fun _ => true) true fuel 37 cs = some x) (hlt : ∀ p ∈ x.2, p.block < W.heap.size) :
    ∃ k : OpL, opRelB (fun k => k < W.heap.size) W k cs ∧ cs.length = 6 ∧ (∀ u ∈ cs, u.oneCell' = true) ∧ opB k ≤ Rows.uptoBulk x.1 := by
  obtain ⟨xs, n, _, hx, hcl, hlen, hf⟩ := DataW.trod_struct Tryz.underlying37 h
  have hC : Tryz.prog.cellsOf 37 = 6 := by kernel_rfl
  have hone := op_one
  rw [hC] at hcl
  match cs, hcl with
  | [c0, c1, c2, c3, c4, c5], _ =>
    obtain ⟨o0, k0⟩ := hone_of hone 0 _ rfl
    obtain ⟨o1, k1⟩ := hone_of hone 1 _ rfl
    obtain ⟨o2, k2⟩ := hone_of hone 2 _ rfl
    obtain ⟨o3, k3⟩ := hone_of hone 3 _ rfl
    obtain ⟨o4, k4⟩ := hone_of hone 4 _ rfl
    obtain ⟨o5, k5⟩ := hone_of hone 5 _ rfl
    have h0 : DataW.trod enc Tryz.prog W 0 (fun _ => true) true n 3 [c0] = xs[0]? := by have h := hf 0 _ rfl; rw [o0, k0] at h; exact h
    have h1 : DataW.trod enc Tryz.prog W 0 (fun _ => true) true n 9 [c1] = xs[1]? := by have h := hf 1 _ rfl; rw [o1, k1] at h; exact h
    have h2 : DataW.trod enc Tryz.prog W 0 (fun _ => true) true n 9 [c2] = xs[2]? := by have h := hf 2 _ rfl; rw [o2, k2] at h; exact h
    have h3 : DataW.trod enc Tryz.prog W 0 (fun _ => true) true n 35 [c3] = xs[3]? := by have h := hf 3 _ rfl; rw [o3, k3] at h; exact h
    have h4 : DataW.trod enc Tryz.prog W 0 (fun _ => true) true n 3 [c4] = xs[4]? := by have h := hf 4 _ rfl; rw [o4, k4] at h; exact h
    have h5 : DataW.trod enc Tryz.prog W 0 (fun _ => true) true n 3 [c5] = xs[5]? := by have h := hf 5 _ rfl; rw [o5, k5] at h; exact h
    clear o0 k0 o1 k1 o2 k2 o3 k3 o4 k4 o5 k5
    match xs, hlen with
    | [y0, y1, y2, y3, y4, y5], _ =>
      simp only [List.getElem?_cons_zero, List.getElem?_cons_succ] at h0 h1 h2 h3 h4 h5
      obtain ⟨kk, e0, _, _⟩ := DataW.trod_int Tryz.underlying3 h0
      obtain ⟨s1, e1, rfl, _⟩ := DataW.trod_string Tryz.underlying9 h1
      obtain ⟨s2, e2, rfl, _⟩ := DataW.trod_string Tryz.underlying9 h2
      obtain ⟨nn, e4, _, w4⟩ := DataW.trod_int Tryz.underlying3 h4
      obtain ⟨mm, e5, _, w5⟩ := DataW.trod_int Tryz.underlying3 h5
      injection e0 with e0 _
      injection e1 with e1 _
      injection e2 with e2 _
      injection e4 with e4 _
      injection e5 with e5 _
      subst e0 e1 e2 e4 e5 hx
      obtain ⟨l3, t3, b3⟩ := open_bytesv h3 (fun p hp => hlt p (by simp [hp]))
      obtain ⟨da, dn, dc, rfl⟩ := bytes_slice t3
      obtain ⟨l1, rfl⟩ : ∃ l : List UInt8, s1 = ⟨l.toArray⟩ := ⟨s1.data.toList, by simp⟩
      obtain ⟨l2, rfl⟩ : ∃ l : List UInt8, s2 = ⟨l.toArray⟩ := ⟨s2.data.toList, by simp⟩
      refine ⟨⟨kk, l1, l2, l3, nn, mm⟩, ⟨⟨_, rfl, t3⟩, bounds_i64 w4, bounds_i64 w5⟩, rfl, fun u hu => ?_, ?_⟩
      · simp at hu; rcases hu with rfl | rfl | rfl | rfl | rfl | rfl <;> rfl
      · simp only [List.map_cons, List.map_nil, Rows.uptoBulk, Rows.uptoBulkAll]
        show l1.length + l2.length + l3.length + 1 ≤ _
        have e1 : ((⟨l1.toArray⟩ : ByteArray).data.toList).length = l1.length := by simp
        have e2 : ((⟨l2.toArray⟩ : ByteArray).data.toList).length = l2.length := by simp
        omega
theorem open_opsv {fuel : Nat} {v : Value} {x : DataW H × List MemPlace} (h : DataW.trod enc Tryz.prog W 0 (fun _ => true) true fuel 22 [v] = some x) (hlt : ∀ p ∈ x.2, p.block < W.heap.size) :
    ∃ l, (OpsC (fun k => k < W.heap.size) W v l ∧ ∀ e ∈ l, (-9223372036854775808 ≤ e.n ∧ e.n ≤ 9223372036854775807) ∧ (-9223372036854775808 ≤ e.m ∧ e.m ≤ 9223372036854775807)) ∧ sumR opB l ≤ Rows.uptoBulk x.1 := by
  obtain ⟨l, h1, h2⟩ := open_recs Tryz.underlying22 (by kernel_rfl) (by omega) opB (fun _ _ _ h1 h2 => open_op h1 h2) h hlt
  exact ⟨l, opsB_split h1, h2⟩
set_option maxRecDepth 100000 in
theorem open_opv {base : Nat} {v : Value} {x : DataW H × List MemPlace} (hv : Value.okWide Tryz.prog W .any base 37 v) {fuel : Nat} (h : DataW.trod enc Tryz.prog W 0 (fun _ => true) true fuel 37 v.cells.toList = some x) (hlt : ∀ p ∈ x.2, p.block < W.heap.size) :
    ∃ (o : OpL) (vd : Value), v = .agg (opRow o vd) ∧ (BytesC (fun k => k < W.heap.size) W vd o.data ∧ (-9223372036854775808 ≤ o.n ∧ o.n ≤ 9223372036854775807) ∧ (-9223372036854775808 ≤ o.m ∧ o.m ≤ 9223372036854775807)) ∧ opB o ≤ Rows.uptoBulk x.1 := by
  obtain ⟨cs, rfl, _, _⟩ : ∃ cs, v = .agg cs ∧ cs.size = Tryz.prog.cellsOf 37 ∧ Row.okWide Tryz.prog W .any base 37 cs := by
    simp only [Value.okWide, Tryz.underlying37] at hv
    exact hv
  have hh : DataW.trod enc Tryz.prog W 0 (fun _ => true) true fuel 37 cs.toList = some x := by simpa [Value.cells] using h
  obtain ⟨o, ⟨⟨vd, e, hd⟩, hn, hm⟩, _, _, hb⟩ := open_op hh hlt
  refine ⟨o, vd, ?_, ⟨hd, hn, hm⟩, hb⟩
  have : cs = (opRow o vd) := by
    apply Array.toList_inj.1
    rw [e]; rfl
  rw [this]
end
end Go.Proofs.YtjefcalndfcmdaaGreatDoor
