/- Arguments opened: an id, three times, files, three lists of files. Arguments opened: files, three lists of files. Arguments opened: three lists of files. Arguments opened: raw blobs. -/
import Derived.Test.YtjlpdoppnhcjoaaDoorJnW
import Derived.Deep.Slices
import Derived.Deep.Fields
import Derived.ChangeSame
import Derived.Carry
import Derived.OpenShut
import Derived.WideShapes
import Derived.Laws.FloatArith
import Derived.Lib.SmallJoins
import Derived.Test.YtjlpdoppnhcjoaaDoorJnZb
namespace Go.Proofs.YtjlpdoppnhcjoaaDoor
open Go.RowKit Go.ChangeShapes Go.WideShapes Go.Deep Go.Joins

section
variable {H : Type} {enc : TypeId × Value → H} {W : World}
theorem trod_float {P : Program} {w : World} {base : Nat} {spare : Nat → Bool} {held : Bool} {fuel : Nat} {t : TypeId} {cs : List Value} {x : DataW H × List MemPlace} {k : FloatKind} (ht : P.underlying t = some (.float k)) (h : DataW.trod enc P w base spare held fuel t cs = some x) : ∃ n, cs = [.float k n] ∧ x = (.lit (.float k n), []) ∧ (Lit.float k n).wf = true := by
  cases fuel with
  | zero => simp [DataW.trod] at h
  | succ n =>
    unfold DataW.trod at h
    rw [ht] at h
    split at h <;> simp_all
/-- An id's cells. -/
theorem open_idc {fuel : Nat} {cs : List Value} {x : DataW H × List MemPlace} (h : DataW.trod enc Tryd.prog W 0 (fun _ => true) true fuel 36 cs = some x) : ∃ f : Nat → UInt8, cs = bv (idL f) := by
  have hC : Tryd.prog.cellsOf 36 = 32 := by kernel_rfl
  have hE : Tryd.prog.cellsOf 5 = 1 := by kernel_rfl
  obtain ⟨xs, m, _, hx, hlen, hxl, hi⟩ := DataW.trod_array Tryd.underlying36 h
  rw [hC] at hlen
  rw [hE] at hi
  have key : ∀ i, i < 32 → ∃ u : UInt8, cs[i]? = some (.int .u8 (u.toNat : Int)) := fun i hi2 => by
    have h1 := hi i hi2
    rw [List.getElem?_eq_getElem (by omega)] at h1
    obtain ⟨n, e, _, hw⟩ := DataW.trod_int Tryd.underlying5 h1
    obtain ⟨b1, b2⟩ := bounds_u8 hw
    refine ⟨n.toNat.toUInt8, ?_⟩
    have e0 : (cs.drop (i * 1))[0]? = some (.int .u8 n) := by
      have e2 : ((cs.drop (i * 1)).take 1)[0]? = some (.int .u8 n) := by rw [e]; rfl
      rwa [List.getElem?_take, if_pos (by omega)] at e2
    rw [List.getElem?_drop, Nat.mul_one, Nat.add_zero] at e0
    rw [e0]
    have e3 : (n.toNat.toUInt8).toNat = n.toNat := by
      rw [Nat.toUInt8, UInt8.toNat_ofNat']; omega
    have e4 : ((n.toNat.toUInt8).toNat : Int) = n := by rw [e3]; exact Int.toNat_of_nonneg b1
    rw [e4]
  refine ⟨fun k => ((cs[k]?).map fun v => match v with
    | .int _ n => n.toNat.toUInt8
    | _ => 0).getD 0, ?_⟩
  apply List.ext_getElem?
  intro i
  by_cases hi2 : i < 32
  · obtain ⟨u, hu⟩ := key i hi2
    rw [hu]
    unfold bv idL
    rw [List.getElem?_map, List.getElem?_map, List.getElem?_range hi2]
    simp [hu]
  · rw [List.getElem?_eq_none (by omega), List.getElem?_eq_none (by rw [bv_len, idL_len]; omega)]
set_option maxRecDepth 100000 in
theorem open_idv {base : Nat} {v : Value} {d : DataW H} {p : List MemPlace} (hv : Value.okWide Tryd.prog W .any base 36 v) {fuel : Nat} (h : DataW.trod enc Tryd.prog W 0 (fun _ => true) true fuel 36 v.cells.toList = some (d, p)) : ∃ f : Nat → UInt8, v = .agg (bv (idL f)).toArray := by
  obtain ⟨cs, rfl, _⟩ : ∃ cs, v = .agg cs ∧ cs.size = Tryd.prog.cellsOf 36 ∧ Row.okWide Tryd.prog W .any base 36 cs := by
    simp only [Value.okWide, Tryd.underlying36] at hv
    exact hv
  obtain ⟨f, hf⟩ := open_idc h
  refine ⟨f, ?_⟩
  have e : cs.toList = bv (idL f) := by simpa [Value.cells] using hf
  rw [← e]
set_option maxRecDepth 100000 in
theorem open_times {base : Nat} {v : Value} {d : DataW H} {p : List MemPlace} (hv : Value.okWide Tryd.prog W .any base 63 v) {fuel : Nat} (h : DataW.trod enc Tryd.prog W 0 (fun _ => true) true fuel 63 v.cells.toList = some (d, p)) :
    ∃ s0 s1 s2 : Nat, v = .agg #[.float .f64 s0, .float .f64 s1, .float .f64 s2] ∧ s0 < 18446744073709551616 ∧ s1 < 18446744073709551616 ∧ s2 < 18446744073709551616 := by
  have hC : Tryd.prog.cellsOf 63 = 3 := by kernel_rfl
  have hE : Tryd.prog.cellsOf 37 = 1 := by kernel_rfl
  obtain ⟨cs, rfl, hsz, _⟩ : ∃ cs, v = .agg cs ∧ cs.size = Tryd.prog.cellsOf 63 ∧ Row.okWide Tryd.prog W .any base 63 cs := by
    simp only [Value.okWide, Tryd.underlying63] at hv
    exact hv
  rw [hC] at hsz
  obtain ⟨l⟩ := cs
  match l, hsz with
  | [c0, c1, c2], _ =>
    have hh : DataW.trod enc Tryd.prog W 0 (fun _ => true) true fuel 63 [c0, c1, c2] = some (d, p) := by simpa [Value.cells] using h
    obtain ⟨xs, m, _, hx, _, hlen, hi⟩ := DataW.trod_array Tryd.underlying63 hh
    rw [hE] at hi
    match xs, hlen with
    | [y0, y1, y2], _ =>
      have h0 : DataW.trod enc Tryd.prog W 0 (fun _ => true) true m 37 [c0] = some y0 := by simpa using hi 0 (by omega)
      have h1 : DataW.trod enc Tryd.prog W 0 (fun _ => true) true m 37 [c1] = some y1 := by simpa using hi 1 (by omega)
      have h2 : DataW.trod enc Tryd.prog W 0 (fun _ => true) true m 37 [c2] = some y2 := by simpa using hi 2 (by omega)
      obtain ⟨s0, e0, _, w0⟩ := trod_float Tryd.underlying37 h0
      obtain ⟨s1, e1, _, w1⟩ := trod_float Tryd.underlying37 h1
      obtain ⟨s2, e2, _, w2⟩ := trod_float Tryd.underlying37 h2
      injection e0 with e0 _
      injection e1 with e1 _
      injection e2 with e2 _
      refine ⟨s0, s1, s2, by rw [e0, e1, e2], ?_, ?_, ?_⟩
      · simpa [Lit.wf, FloatKind.format] using w0
      · simpa [Lit.wf, FloatKind.format] using w1
      · simpa [Lit.wf, FloatKind.format] using w2
end
end Go.Proofs.YtjlpdoppnhcjoaaDoor
namespace Go.Proofs.YtjlpdoppnhcjoaaDoor
open Go.RowKit Go.ChangeShapes Go.WideShapes Go.Deep Go.Joins
/-- Values and letters that records hold, at most. -/
def sumR {E : Type} (f : E → Nat) : List E → Nat
  | [] => 0
  | e :: r => f e + sumR f r
theorem sumR_mem {E : Type} (f : E → Nat) : ∀ (l : List E), ∀ e ∈ l, f e ≤ sumR f l
  | [], _, h => by cases h
  | x :: r, e, h => by
    rcases List.mem_cons.1 h with rfl | h
    · simp only [sumR]; omega
    · have := sumR_mem f r e h; simp only [sumR]; omega
theorem sumR_len {E : Type} {f : E → Nat} (hf : ∀ e, 1 ≤ f e) : ∀ l : List E, l.length ≤ sumR f l
  | [] => Nat.zero_le _
  | x :: r => by have := sumR_len hf r; have := hf x; simp only [sumR, List.length_cons]; omega
theorem bulk_one {H : Type} (d : DataW H) : 1 ≤ Rows.uptoBulk d := by
  cases d with
  | lit l => cases l <;> simp [Rows.uptoBulk]
  | nil => simp [Rows.uptoBulk]
  | ptr d => simp [Rows.uptoBulk]
  | slice elems spare => simp [Rows.uptoBulk]
  | agg parts => simp [Rows.uptoBulk]
  | iface t d => simp [Rows.uptoBulk]
  | map entries => simp [Rows.uptoBulk]
  | held h => simp [Rows.uptoBulk]
theorem bulk_len {H : Type} (l : List (DataW H)) : l.length ≤ Rows.uptoBulkAll l := by
  induction l with
  | nil => simp [Rows.uptoBulkAll]
  | cons x r ih => have := bulk_one x; simp only [Rows.uptoBulkAll, List.length_cons]; omega
theorem bulk_slice {H : Type} (elems spare : List (DataW H)) : elems.length + 1 ≤ Rows.uptoBulk (.slice elems spare) ∧ Rows.uptoBulkAll elems + 1 ≤ Rows.uptoBulk (.slice elems spare) := by
  have h1 := bulk_len elems
  simp only [Rows.uptoBulk]
  omega
theorem spot_none {w : World} {a : Addr} {v : Value} (h : w.cell? a = some v) : a.spot = none := by
  obtain ⟨b, o, sp⟩ := a
  cases sp with
  | none => rfl
  | some s =>
    exfalso
    unfold World.cell? at h
    split at h <;> simp at h
def fileB (f : FileN) : Nat := f.path.length + 1
section
variable {H : Type} {enc : TypeId × Value → H} {W : World}
set_option maxRecDepth 100000 in
theorem open_filec {fuel : Nat} {cs : List Value} {x : DataW H × List MemPlace} (h : DataW.trod enc Tryd.prog W 0 (fun _ => true) true fuel 44 cs = some x) :
    ∃ k : FileN, cs = rowL n34 (fileF k) ∧ fileB k ≤ Rows.uptoBulk x.1 ∧ k.stamp < 18446744073709551616 := by
  obtain ⟨xs, n, _, hx, hcl, hlen, hf⟩ := DataW.trod_struct Tryd.underlying44 h
  have hC : Tryd.prog.cellsOf 44 = 34 := by kernel_rfl
  have hE0 : Tryd.prog.cellsOf 9 = 1 := by kernel_rfl
  have hE1 : Tryd.prog.cellsOf 36 = 32 := by kernel_rfl
  have hE2 : Tryd.prog.cellsOf 37 = 1 := by kernel_rfl
  rw [hC] at hcl
  have h0 : DataW.trod enc Tryd.prog W 0 (fun _ => true) true n 9 ((cs.drop 0).take (Tryd.prog.cellsOf 9)) = xs[0]? := hf 0 _ rfl
  have h1 : DataW.trod enc Tryd.prog W 0 (fun _ => true) true n 36 ((cs.drop 1).take (Tryd.prog.cellsOf 36)) = xs[1]? := hf 1 _ rfl
  have h2 : DataW.trod enc Tryd.prog W 0 (fun _ => true) true n 37 ((cs.drop 33).take (Tryd.prog.cellsOf 37)) = xs[2]? := hf 2 _ rfl
  rw [hE0] at h0
  rw [hE1] at h1
  rw [hE2] at h2
  match xs, hlen with
  | [y0, y1, y2], _ =>
    simp only [List.getElem?_cons_zero, List.getElem?_cons_succ] at h0 h1 h2
    obtain ⟨s, hs, rfl, _⟩ := DataW.trod_string Tryd.underlying9 h0
    obtain ⟨f, hfid⟩ := open_idc h1
    obtain ⟨st, hst, _, w2⟩ := trod_float Tryd.underlying37 h2
    subst hx
    refine ⟨⟨s.data.toList, f, st⟩, rowL_ext (by rw [hcl]; rfl) (fun k hk => ?_), ?_, by simpa [Lit.wf, FloatKind.format] using w2⟩
    · have hk34 : k < 34 := hk
      unfold fileF
      by_cases k0 : k = 0
      · subst k0
        rw [if_pos rfl]
        have e : ((cs.drop 0).take 1)[0]? = some (.string s) := by rw [hs]; rfl
        rw [List.getElem?_take, if_pos (by omega), List.getElem?_drop] at e
        simpa using e
      · rw [if_neg k0]
        by_cases k1 : k < 33
        · rw [if_pos k1]
          have e : ((cs.drop 1).take 32)[k - 1]? = some (.int .u8 ((f (k - 1)).toNat : Int)) := by
            rw [hfid, ← idL_row]
            exact rowL_at (idF f) (show k - 1 < n32 by unfold n32; omega)
          rw [List.getElem?_take, if_pos (by omega), List.getElem?_drop, show 1 + (k - 1) = k by omega] at e
          exact e
        · rw [if_neg k1]
          have e : ((cs.drop 33).take 1)[0]? = some (.float .f64 st) := by rw [hst]; rfl
          rw [List.getElem?_take, if_pos (by omega), List.getElem?_drop, show 33 + 0 = k by omega] at e
          exact e
    · simp only [List.map_cons, List.map_nil, Rows.uptoBulk, Rows.uptoBulkAll, fileB]
      omega
set_option maxRecDepth 100000 in
theorem open_recs {E : Type} [Inhabited E] {rel : (Nat → Prop) → World → E → List Value → Prop} {sz : Nat} {t ts : TypeId} (hts : Tryd.prog.underlying ts = some (.slice t)) (hC : Tryd.prog.cellsOf t = sz) (hsz : 0 < sz) (f : E → Nat)
    (op : ∀ (n : Nat) (cs : List Value) (x : DataW H × List MemPlace), DataW.trod enc Tryd.prog W 0 (fun _ => true) true n t cs = some x → (∀ p ∈ x.2, p.block < W.heap.size) →
      ∃ e : E, rel (fun k => k < W.heap.size) W e cs ∧ cs.length = sz ∧ (∀ u ∈ cs, u.oneCell' = true) ∧ f e ≤ Rows.uptoBulk x.1)
    {fuel : Nat} {v : Value} {x : DataW H × List MemPlace} (h : DataW.trod enc Tryd.prog W 0 (fun _ => true) true fuel ts [v] = some x) (hlt : ∀ p ∈ x.2, p.block < W.heap.size) :
    ∃ l, RowsC rel sz (fun k => k < W.heap.size) W v l ∧ sumR f l ≤ Rows.uptoBulk x.1 := by
  rcases open_slice hts h with ⟨hcs, hx⟩ | ⟨a, len, cap, m, n, D, Pl, hcs, hb, hl, hm, hmm, hx, hi⟩
  · injection hcs with hcs _
    subst hcs hx
    exact ⟨[], ⟨[], rfl, fun _ h => (by cases h), CellsC.nil _ _ _ _ _, fun j e cs h _ => by simp at h⟩, Nat.zero_le _⟩
  · injection hcs with hcs _
    subst hcs
    rw [if_pos rfl] at hmm
    subst hmm
    have key : ∀ i, ∃ q : E × List Value, i < len → rel (fun k => k < W.heap.size) W q.1 q.2 ∧ q.2.length = sz ∧ (∀ u ∈ q.2, u.oneCell' = true) ∧ f q.1 ≤ Rows.uptoBulk (D i) ∧ ∀ j u, q.2[j]? = some u → W.cell? ((a.add (i * sz)).add j) = some u := fun i => by
      by_cases hil : i < len
      · obtain ⟨cs', hc, ht⟩ := hi i (by omega)
        obtain ⟨k, r1, r2, r3, r4⟩ := op _ _ _ ht (fun p hp => hlt p (by rw [hx]; exact List.mem_append_right _ (List.mem_flatMap.2 ⟨i, List.mem_range.2 (by omega), hp⟩)))
        obtain ⟨_, _, hat⟩ := World.cells?_some hc
        refine ⟨(k, cs'), fun _ => ⟨r1, r2, r3, r4, fun j u hu => ?_⟩⟩
        have hj : j < sz := by rw [← r2]; exact (List.getElem?_eq_some_iff.1 hu).1
        have h1 := hat j (by rw [hC]; exact hj)
        rw [hC] at h1
        rw [h1]; exact hu
      · exact ⟨(default, []), fun h => absurd h hil⟩
    obtain ⟨F, hF⟩ := Classical.axiomOfChoice key
    have hhl : ((List.range len).map fun i => (F i).1).length = len := by simp
    have hcl : ((List.range len).map fun i => (F i).2).length = len := by simp
    have hhat : ∀ i, i < len → ((List.range len).map fun i => (F i).1)[i]? = some (F i).1 := fun i hi => by simp [hi]
    have hcat : ∀ i, i < len → ((List.range len).map fun i => (F i).2)[i]? = some (F i).2 := fun i hi => by simp [hi]
    have hce : ∀ cs ∈ (List.range len).map fun i => (F i).2, cs.length = sz := fun cs hcs => by
      obtain ⟨i, hi, rfl⟩ := List.mem_map.1 hcs
      exact (hF i (List.mem_range.1 hi)).2.1
    refine ⟨(List.range len).map fun i => (F i).1, ⟨(List.range len).map fun i => (F i).2, by rw [hhl, hcl], hce, ?_, fun j e cs he hc => ?_⟩, ?_⟩
    · by_cases h0 : len = 0
      · subst h0; exact CellsC.nil _ _ _ _ _
      · have h00 := hF 0 (by omega)
        have hsp : a.spot = none := by
          have hl0 : 0 < (F 0).2.length := by rw [h00.2.1]; exact hsz
          have := h00.2.2.2.2 0 _ (List.getElem?_eq_getElem hl0)
          rw [Nat.zero_mul, add_none, add_none] at this
          exact spot_none this
        obtain ⟨g, o, sp⟩ := a
        simp only at hsp
        subst hsp
        refine ⟨by rw [flatten_len _ hce, hcl, hhl], fun u hu => ?_, Or.inr ⟨g, o, m, by rw [hhl], ?_, by rw [hhl]; exact hl, hm, fun j u hj => ?_⟩⟩
        · obtain ⟨cs, hcs, hu⟩ := List.mem_flatten.1 hu
          obtain ⟨i, hi, rfl⟩ := List.mem_map.1 hcs
          exact (hF i (List.mem_range.1 hi)).2.2.1 u hu
        · refine hlt (.cell g (o + 0)) ?_
          rw [hx]
          exact List.mem_append_left _ (MemPlace.mem_row.2 ⟨0, by rw [hC]; exact Nat.mul_pos (by omega) hsz, rfl⟩)
        · have hjl : j < len * sz := by
            have := (List.getElem?_eq_some_iff.1 hj).1
            rwa [flatten_len _ hce, hcl] at this
          have hd : j / sz < len := Nat.div_lt_of_lt_mul (by rw [Nat.mul_comm]; exact hjl)
          have hdm : j / sz * sz + j % sz = j := Nat.div_add_mod' j sz
          have e := flatten_at _ (j / sz) _ hce (hcat _ hd) (j % sz) (Nat.mod_lt _ hsz)
          rw [hdm, hj] at e
          have := (hF _ hd).2.2.2.2 (j % sz) u e.symm
          rw [add_pos, add_pos, Nat.add_assoc, hdm] at this
          exact this
    · have hj : j < len := by
        have := (List.getElem?_eq_some_iff.1 he).1
        rwa [hhl] at this
      rw [hhat j hj] at he
      rw [hcat j hj] at hc
      injection he with he
      injection hc with hc
      subst he hc
      exact (hF j hj).1
    · have hs : ∀ k, k ≤ len → sumR f ((List.range' (len - k) k).map fun i => (F i).1) ≤ Rows.uptoBulkAll ((List.range' (len - k) k).map D) := fun k => by
        induction k with
        | zero => intro _; simp [sumR]
        | succ k ih =>
          intro hk
          have h1 := ih (by omega)
          have h2 := (hF (len - (k + 1)) (by omega)).2.2.2.1
          rw [List.range'_succ, List.map_cons, List.map_cons, show len - (k + 1) + 1 = len - k from by omega]
          simp only [sumR, Rows.uptoBulkAll]
          omega
      have h1 := hs len (Nat.le_refl _)
      rw [Nat.sub_self, ← List.range_eq_range'] at h1
      rw [hx]
      have h2 := (bulk_slice ((List.range len).map D) ((List.range (m - len)).map fun j => D (len + j))).2
      have h3 : Rows.uptoBulk (DataW.slice ((List.range len).map D) ((List.range (m - len)).map fun j => D (len + j))) = Rows.uptoBulk (DataW.slice ((List.range len).map D) ((List.range (m - len)).map fun j => D (len + j)), MemPlace.row a (m * Tryd.prog.cellsOf t) ++ (List.range m).flatMap Pl).1 := rfl
      rw [← h3]
      omega
def fileOk (_ : Nat → Prop) (_ : World) (f : FileN) (cs : List Value) : Prop := cs = rowL n34 (fileF f) ∧ f.stamp < 18446744073709551616
instance : Inhabited FileN := ⟨noFile⟩
/-- A slice of files, opened. -/
theorem open_filesv {fuel : Nat} {v : Value} {x : DataW H × List MemPlace} (h : DataW.trod enc Tryd.prog W 0 (fun _ => true) true fuel 22 [v] = some x) (hlt : ∀ p ∈ x.2, p.block < W.heap.size) :
    ∃ l, (FilesC (fun k => k < W.heap.size) W v l ∧ ∀ f ∈ l, f.stamp < 18446744073709551616) ∧ sumR fileB l ≤ Rows.uptoBulk x.1 := by
  obtain ⟨l, hl, hs⟩ := open_recs (rel := fileOk) Tryd.underlying22 (show Tryd.prog.cellsOf 44 = n34 by kernel_rfl) (by unfold n34; omega) fileB (fun _ cs y h1 _ => by
    obtain ⟨k, hk, hb, hs⟩ := open_filec h1
    exact ⟨k, ⟨hk, hs⟩, by rw [hk, rowL_len], by rw [hk]; exact rowL_one (file_one k _), hb⟩) h hlt
  obtain ⟨css, h1, h2, h3, h4⟩ := hl
  refine ⟨l, ⟨⟨css, h1, h2, h3, fun j e cs he hc => (h4 j e cs he hc).1⟩, fun f hf => ?_⟩, hs⟩
  obtain ⟨j, hj, rfl⟩ := List.getElem_of_mem hf
  exact (h4 j l[j] (css[j]'(by omega)) (List.getElem?_eq_getElem hj) (List.getElem?_eq_getElem (by omega))).2
end
theorem path_le {l : List FileN} {f : FileN} {n : Nat} (hf : f ∈ l) (h : sumR fileB l ≤ n) (hn : n ≤ 1048576) : f.path.length ≤ 4194304 := by
  have h1 : f.path.length + 1 ≤ sumR fileB l := sumR_mem fileB l f hf
  omega
end Go.Proofs.YtjlpdoppnhcjoaaDoor
namespace Go.Proofs.YtjlpdoppnhcjoaaDoor
open Go.RowKit Go.ChangeShapes Go.WideShapes Go.Deep Go.Joins
section
variable {H : Type} {enc : TypeId × Value → H} {W : World}
set_option maxRecDepth 100000 in
theorem open_left {base : Nat} {v : Value} {d : DataW H} {p : List MemPlace} (hv : Value.okWide Tryd.prog W .any base 26 v) {fuel : Nat} (h : DataW.trod enc Tryd.prog W 0 (fun _ => true) true fuel 26 v.cells.toList = some (d, p)) (hlt : ∀ x ∈ p, x.block < W.heap.size) :
    ∃ (a : Nat → Option Addr) (c : Nat → Nat) (l : Nat → List FileN), v = .agg #[.slice (a 0) (l 0).length (c 0), .slice (a 1) (l 1).length (c 1), .slice (a 2) (l 2).length (c 2)] ∧
      (∀ i, i < 3 → FilesC (fun k => k < W.heap.size) W (.slice (a i) (l i).length (c i)) (l i) ∧ ∀ f ∈ l i, f.stamp < 18446744073709551616) ∧ sumR fileB (l 0) + sumR fileB (l 1) + sumR fileB (l 2) ≤ Rows.uptoBulk d := by
  have hC : Tryd.prog.cellsOf 26 = 3 := by kernel_rfl
  have hE : Tryd.prog.cellsOf 22 = 1 := by kernel_rfl
  obtain ⟨cs, rfl, hsz, _⟩ : ∃ cs, v = .agg cs ∧ cs.size = Tryd.prog.cellsOf 26 ∧ Row.okWide Tryd.prog W .any base 26 cs := by
    simp only [Value.okWide, Tryd.underlying26] at hv
    exact hv
  rw [hC] at hsz
  obtain ⟨l⟩ := cs
  match l, hsz with
  | [x0, x1, x2], _ =>
    have hh : DataW.trod enc Tryd.prog W 0 (fun _ => true) true fuel 26 [x0, x1, x2] = some (d, p) := by simpa [Value.cells] using h
    obtain ⟨xs, m, _, hx, _, hlen, hi⟩ := DataW.trod_array Tryd.underlying26 hh
    rw [hE] at hi
    match xs, hlen with
    | [y0, y1, y2], _ =>
      have h0 : DataW.trod enc Tryd.prog W 0 (fun _ => true) true m 22 [x0] = some y0 := by simpa using hi 0 (by omega)
      have h1 : DataW.trod enc Tryd.prog W 0 (fun _ => true) true m 22 [x1] = some y1 := by simpa using hi 1 (by omega)
      have h2 : DataW.trod enc Tryd.prog W 0 (fun _ => true) true m 22 [x2] = some y2 := by simpa using hi 2 (by omega)
      injection hx with hd hp
      subst hd hp
      obtain ⟨l0, r0, b0⟩ := open_filesv h0 (fun q hq => hlt q (by simp [hq]))
      obtain ⟨l1, r1, b1⟩ := open_filesv h1 (fun q hq => hlt q (by simp [hq]))
      obtain ⟨l2, r2, b2⟩ := open_filesv h2 (fun q hq => hlt q (by simp [hq]))
      obtain ⟨a0, c0, rfl⟩ := RowsC.shape r0.1
      obtain ⟨a1, c1, rfl⟩ := RowsC.shape r1.1
      obtain ⟨a2, c2, rfl⟩ := RowsC.shape r2.1
      refine ⟨fun i => if i = 0 then a0 else if i = 1 then a1 else a2, fun i => if i = 0 then c0 else if i = 1 then c1 else c2, fun i => if i = 0 then l0 else if i = 1 then l1 else l2, rfl, fun i hi3 => ?_, ?_⟩
      · have h3 : i = 0 ∨ i = 1 ∨ i = 2 := by omega
        rcases h3 with rfl | rfl | rfl
        · exact r0
        · exact r1
        · exact r2
      · show sumR fileB l0 + sumR fileB l1 + sumR fileB l2 ≤ _
        simp only [List.map_cons, List.map_nil, Rows.uptoBulk, Rows.uptoBulkAll]
        omega
end
theorem sum_at {l : Nat → List FileN} {n : Nat} (h : sumR fileB (l 0) + sumR fileB (l 1) + sumR fileB (l 2) ≤ n) {i : Nat} (hi : i < 3) : sumR fileB (l i) ≤ n := by
  have h3 : i = 0 ∨ i = 1 ∨ i = 2 := by omega
  rcases h3 with rfl | rfl | rfl <;> omega
theorem fileB_pos (f : FileN) : 1 ≤ fileB f := by unfold fileB; omega
theorem len_at {l : Nat → List FileN} {n : Nat} (h : sumR fileB (l 0) + sumR fileB (l 1) + sumR fileB (l 2) ≤ n) (hn : n ≤ 1048576) {i : Nat} (hi : i < 3) : (l i).length ≤ 4194304 := by
  have h1 := sum_at h hi
  have h2 := sumR_len fileB_pos (l i)
  omega
end Go.Proofs.YtjlpdoppnhcjoaaDoor
namespace Go.Proofs.YtjlpdoppnhcjoaaDoor
open Go.RowKit Go.ChangeShapes Go.WideShapes Go.Deep Go.Joins
section
variable {H : Type} {enc : TypeId × Value → H} {W : World}
/-- A slice of bytes, opened. -/
theorem open_bytesv {fuel : Nat} {v : Value} {x : DataW H × List MemPlace} (h : DataW.trod enc Tryd.prog W 0 (fun _ => true) true fuel 38 [v] = some x) (hlt : ∀ p ∈ x.2, p.block < W.heap.size) :
    ∃ l, BytesC (fun k => k < W.heap.size) W v l ∧ l.length + 1 ≤ Rows.uptoBulk x.1 := by
  rcases open_slice Tryd.underlying38 h with ⟨hcs, hx⟩ | ⟨a, len, cap, m, n, D, Pl, hcs, hb, hl, hm, hmm, hx, hi⟩
  · injection hcs with hcs _
    subst hcs hx
    exact ⟨[], Or.inl ⟨rfl, rfl⟩, by simp [Rows.uptoBulk]⟩
  · injection hcs with hcs _
    subst hcs
    rw [if_pos rfl] at hmm
    subst hmm
    have hC : Tryd.prog.cellsOf 5 = 1 := by kernel_rfl
    have key : ∀ i, ∃ u : UInt8, i < len → W.cell? (a.add i) = some (.int .u8 (u.toNat : Int)) := fun i => by
      by_cases hil : i < len
      · obtain ⟨cs', hc, ht⟩ := hi i (by omega)
        obtain ⟨c, hcs', _, hwf⟩ := DataW.trod_int Tryd.underlying5 ht
        obtain ⟨_, _, hat⟩ := World.cells?_some hc
        have h1 := hat 0 (by rw [hC]; omega)
        rw [hcs', hC, Nat.mul_one] at h1
        have e0 : (a.add i).add 0 = a.add i := add_none _
        rw [e0] at h1
        obtain ⟨b1, b2⟩ := bounds_u8 hwf
        refine ⟨c.toNat.toUInt8, fun _ => ?_⟩
        rw [h1]
        have e3 : (c.toNat.toUInt8).toNat = c.toNat := by
          rw [Nat.toUInt8, UInt8.toNat_ofNat']; omega
        have e4 : ((c.toNat.toUInt8).toNat : Int) = c := by rw [e3]; exact Int.toNat_of_nonneg b1
        rw [e4]; rfl
      · exact ⟨0, fun h => absurd h hil⟩
    obtain ⟨F, hF⟩ := Classical.axiomOfChoice key
    have hlen : ((List.range len).map F).length = len := by simp
    refine ⟨(List.range len).map F, Or.inr ⟨a, m, by rw [hlen], by rw [hlen]; exact hl, hm, ?_, fun j u hj => ?_⟩, ?_⟩
    · by_cases h0 : len = 0
      · left; subst h0; rfl
      · right
        refine hlt (.cell a.block (a.off + 0)) ?_
        rw [hx]
        refine List.mem_append_left _ (MemPlace.mem_row.2 ⟨0, ?_, rfl⟩)
        rw [hC]; omega
    · have hjl : j < len := by
        have := (List.getElem?_eq_some_iff.1 hj).1
        rw [bv_len, hlen] at this; exact this
      have hu : (bv ((List.range len).map F))[j]? = some (.int .u8 ((F j).toNat : Int)) := by
        unfold bv
        rw [List.getElem?_map, List.getElem?_map, List.getElem?_range hjl]
        rfl
      rw [hu] at hj
      rw [← hj]
      exact hF j hjl
    · rw [hx, hlen]
      have := (bulk_slice ((List.range len).map D) ((List.range (m - len)).map fun j => D (len + j))).1
      simpa using this
def rawB (b : BlobN) : Nat := b.text.length + 1
set_option maxRecDepth 100000 in
theorem open_rawc {fuel : Nat} {cs : List Value} {x : DataW H × List MemPlace} (h : DataW.trod enc Tryd.prog W 0 (fun _ => true) true fuel 51 cs = some x) (hlt : ∀ p ∈ x.2, p.block < W.heap.size) :
    ∃ (k : BlobN) (tv : Value), cs = rowL n34 (rawF k tv) ∧ BytesC (fun k => k < W.heap.size) W tv k.text ∧ rawB k ≤ Rows.uptoBulk x.1 := by
  obtain ⟨xs, n, _, hx, hcl, hlen, hf⟩ := DataW.trod_struct Tryd.underlying51 h
  have hC : Tryd.prog.cellsOf 51 = 34 := by kernel_rfl
  have hE0 : Tryd.prog.cellsOf 36 = 32 := by kernel_rfl
  have hE1 : Tryd.prog.cellsOf 38 = 1 := by kernel_rfl
  have hE2 : Tryd.prog.cellsOf 3 = 1 := by kernel_rfl
  rw [hC] at hcl
  have h0 : DataW.trod enc Tryd.prog W 0 (fun _ => true) true n 36 ((cs.drop 0).take (Tryd.prog.cellsOf 36)) = xs[0]? := hf 0 _ rfl
  have h1 : DataW.trod enc Tryd.prog W 0 (fun _ => true) true n 38 ((cs.drop 32).take (Tryd.prog.cellsOf 38)) = xs[1]? := hf 1 _ rfl
  have h2 : DataW.trod enc Tryd.prog W 0 (fun _ => true) true n 3 ((cs.drop 33).take (Tryd.prog.cellsOf 3)) = xs[2]? := hf 2 _ rfl
  rw [hE0] at h0
  rw [hE1] at h1
  rw [hE2] at h2
  match xs, hlen with
  | [y0, y1, y2], _ =>
    simp only [List.getElem?_cons_zero, List.getElem?_cons_succ] at h0 h1 h2
    obtain ⟨f, hfid⟩ := open_idc h0
    obtain ⟨bad, hbad, _, _⟩ := DataW.trod_int Tryd.underlying3 h2
    have hc1 : (cs.drop 32).take 1 = [cs.getD 32 default] := by
      apply List.ext_getElem?
      intro i
      rw [List.getElem?_take, List.getElem?_drop]
      match i with
      | 0 => rw [if_pos (by omega)]; simp [List.getD, hcl]
      | i + 1 => rw [if_neg (by omega)]; rfl
    rw [hc1] at h1
    subst hx
    obtain ⟨t, ht, hb⟩ := open_bytesv h1 (fun p hp => hlt p (by simp [hp]))
    refine ⟨⟨f, t, bad⟩, cs.getD 32 default, rowL_ext (by rw [hcl]; rfl) (fun k hk => ?_), ht, ?_⟩
    · have hk34 : k < 34 := hk
      unfold rawF
      by_cases k0 : k < 32
      · rw [if_pos k0]
        have e : ((cs.drop 0).take 32)[k]? = some (.int .u8 ((f k).toNat : Int)) := by
          rw [hfid, ← idL_row]
          exact rowL_at (idF f) (show k < n32 by unfold n32; omega)
        rw [List.getElem?_take, if_pos (by omega), List.getElem?_drop, Nat.zero_add] at e
        exact e
      · rw [if_neg k0]
        by_cases k1 : k = 32
        · subst k1
          rw [if_pos rfl]
          simp [List.getD, hcl]
        · rw [if_neg k1]
          have e : ((cs.drop 33).take 1)[0]? = some (.int .i64 bad) := by rw [hbad]; rfl
          rw [List.getElem?_take, if_pos (by omega), List.getElem?_drop, show 33 + 0 = k by omega] at e
          exact e
    · simp only [List.map_cons, List.map_nil, Rows.uptoBulk, Rows.uptoBulkAll, rawB]
      omega
instance : Inhabited BlobN := ⟨noBlob⟩
/-- A slice of raw blobs, opened. -/
theorem open_blobsv {fuel : Nat} {v : Value} {x : DataW H × List MemPlace} (h : DataW.trod enc Tryd.prog W 0 (fun _ => true) true fuel 48 [v] = some x) (hlt : ∀ p ∈ x.2, p.block < W.heap.size) :
    ∃ l, RawsC (fun k => k < W.heap.size) W v l ∧ sumR rawB l ≤ Rows.uptoBulk x.1 := by
  refine open_recs (rel := rawRel) Tryd.underlying48 (show Tryd.prog.cellsOf 51 = n34 by kernel_rfl) (by unfold n34; omega) rawB (fun _ cs y h1 h2 => ?_) h hlt
  obtain ⟨k, tv, hk, ht, hb⟩ := open_rawc h1 h2
  exact ⟨k, ⟨tv, hk, ht⟩, by rw [hk, rowL_len], by rw [hk]; exact rowL_one (raw_one (tv_one ht) _), hb⟩
end
theorem rawB_pos (b : BlobN) : 1 ≤ rawB b := by unfold rawB; omega
theorem sumB_raw (l : List BlobN) : sumB l ≤ sumR rawB l := by
  induction l with
  | nil => exact Nat.le_refl _
  | cons x r ih =>
    unfold sumB at *
    simp only [List.map_cons, List.sum_cons, sumR, rawB]
    omega
end Go.Proofs.YtjlpdoppnhcjoaaDoor
