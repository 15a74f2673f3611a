/- Arguments opened: lists of ids, a blob, entries, a commit. -/
import Derived.Test.YtdolonkeanlaoaaOpen
import Derived.Test.YtdolonkeanlaoaaObN
import Derived.OpenShut
import Derived.WideShapes
namespace Go.Proofs.Ytdolonkeanlaoaa
open Go.RowKit Go.ChangeShapes Go.WideShapes Go.Deep Go.Joins
/-- Values and letters that records hold, at most. -/
def sumR {E : Type} (f : E → Nat) : List E → Nat
  | [] => 0
  | e :: r => f e + sumR f r
theorem sumR_mem {E : Type} (f : E → Nat) : ∀ (l : List E), ∀ e ∈ l, f e ≤ sumR f l
  | [], _, h => by cases h
  | x :: r, e, h => by
    rcases List.mem_cons.1 h with rfl | h
    · simp only [sumR]; omega
    · have := sumR_mem f r e h; simp only [sumR]; omega
theorem sumR_len {E : Type} {f : E → Nat} (hf : ∀ e, 1 ≤ f e) : ∀ l : List E, l.length ≤ sumR f l
  | [] => Nat.zero_le _
  | x :: r => by have := sumR_len hf r; have := hf x; simp only [sumR, List.length_cons]; omega
theorem spot_none {w : World} {a : Addr} {v : Value} (h : w.cell? a = some v) : a.spot = none := by
  obtain ⟨b, o, sp⟩ := a
  cases sp with
  | none => rfl
  | some s =>
    exfalso
    unfold World.cell? at h
    split at h <;> simp at h
section
variable {H : Type} {enc : TypeId × Value → H} {W : World}
theorem trod_float {P : Program} {w : World} {base : Nat} {spare : Nat → Bool} {held : Bool} {fuel : Nat} {t : TypeId} {cs : List Value} {x : DataW H × List MemPlace} {k : FloatKind} (ht : P.underlying t = some (.float k)) (h : DataW.trod enc P w base spare held fuel t cs = some x) : ∃ n, cs = [.float k n] ∧ x = (.lit (.float k n), []) ∧ (Lit.float k n).wf = true := by
  cases fuel with
  | zero => simp [DataW.trod] at h
  | succ n =>
    unfold DataW.trod at h
    rw [ht] at h
    split at h <;> simp_all
/-- An id's cells. -/
theorem open_idc {fuel : Nat} {cs : List Value} {x : DataW H × List MemPlace} (h : DataW.trod enc Try.prog W 0 (fun _ => true) true fuel 27 cs = some x) : ∃ f : Nat → UInt8, cs = bv (idL f) := by
  have hC : Try.prog.cellsOf 27 = 32 := by kernel_rfl
  have hE : Try.prog.cellsOf 5 = 1 := by kernel_rfl
  obtain ⟨xs, m, _, hx, hlen, hxl, hi⟩ := DataW.trod_array Try.underlying27 h
  rw [hC] at hlen
  rw [hE] at hi
  have key : ∀ i, i < 32 → ∃ u : UInt8, cs[i]? = some (.int .u8 (u.toNat : Int)) := fun i hi2 => by
    have h1 := hi i hi2
    rw [List.getElem?_eq_getElem (by omega)] at h1
    obtain ⟨n, e, _, hw⟩ := DataW.trod_int Try.underlying5 h1
    obtain ⟨b1, b2⟩ := bounds_u8 hw
    refine ⟨n.toNat.toUInt8, ?_⟩
    have e0 : (cs.drop (i * 1))[0]? = some (.int .u8 n) := by
      have e2 : ((cs.drop (i * 1)).take 1)[0]? = some (.int .u8 n) := by rw [e]; rfl
      rwa [List.getElem?_take, if_pos (by omega)] at e2
    rw [List.getElem?_drop, Nat.mul_one, Nat.add_zero] at e0
    rw [e0]
    have e3 : (n.toNat.toUInt8).toNat = n.toNat := by
      rw [Nat.toUInt8, UInt8.toNat_ofNat']; omega
    have e4 : ((n.toNat.toUInt8).toNat : Int) = n := by rw [e3]; exact Int.toNat_of_nonneg b1
    rw [e4]
  refine ⟨fun k => ((cs[k]?).map fun v => match v with
    | .int _ n => n.toNat.toUInt8
    | _ => 0).getD 0, ?_⟩
  apply List.ext_getElem?
  intro i
  by_cases hi2 : i < 32
  · obtain ⟨u, hu⟩ := key i hi2
    rw [hu]
    unfold bv idL
    rw [List.getElem?_map, List.getElem?_map, List.getElem?_range hi2]
    simp [hu]
  · rw [List.getElem?_eq_none (by omega), List.getElem?_eq_none (by rw [bv_len, idL_len]; omega)]
set_option maxRecDepth 100000 in
theorem open_recs {E : Type} [Inhabited E] {rel : (Nat → Prop) → World → E → List Value → Prop} {sz : Nat} {t ts : TypeId} (hts : Try.prog.underlying ts = some (.slice t)) (hC : Try.prog.cellsOf t = sz) (hsz : 0 < sz) (f : E → Nat)
    (op : ∀ (n : Nat) (cs : List Value) (x : DataW H × List MemPlace), DataW.trod enc Try.prog W 0 (fun _ => true) true n t cs = some x → (∀ p ∈ x.2, p.block < W.heap.size) →
      ∃ e : E, rel (fun k => k < W.heap.size) W e cs ∧ cs.length = sz ∧ (∀ u ∈ cs, u.oneCell' = true) ∧ f e ≤ Rows.uptoBulk x.1)
    {fuel : Nat} {v : Value} {x : DataW H × List MemPlace} (h : DataW.trod enc Try.prog W 0 (fun _ => true) true fuel ts [v] = some x) (hlt : ∀ p ∈ x.2, p.block < W.heap.size) :
    ∃ l, RowsC rel sz (fun k => k < W.heap.size) W v l ∧ sumR f l ≤ Rows.uptoBulk x.1 := by
  rcases open_slice hts h with ⟨hcs, hx⟩ | ⟨a, len, cap, m, n, D, Pl, hcs, hb, hl, hm, hmm, hx, hi⟩
  · injection hcs with hcs _
    subst hcs hx
    exact ⟨[], ⟨[], rfl, fun _ h => (by cases h), CellsC.nil _ _ _ _ _, fun j e cs h _ => by simp at h⟩, Nat.zero_le _⟩
  · injection hcs with hcs _
    subst hcs
    rw [if_pos rfl] at hmm
    subst hmm
    have key : ∀ i, ∃ q : E × List Value, i < len → rel (fun k => k < W.heap.size) W q.1 q.2 ∧ q.2.length = sz ∧ (∀ u ∈ q.2, u.oneCell' = true) ∧ f q.1 ≤ Rows.uptoBulk (D i) ∧ ∀ j u, q.2[j]? = some u → W.cell? ((a.add (i * sz)).add j) = some u := fun i => by
      by_cases hil : i < len
      · obtain ⟨cs', hc, ht⟩ := hi i (by omega)
        obtain ⟨k, r1, r2, r3, r4⟩ := op _ _ _ ht (fun p hp => hlt p (by rw [hx]; exact List.mem_append_right _ (List.mem_flatMap.2 ⟨i, List.mem_range.2 (by omega), hp⟩)))
        obtain ⟨_, _, hat⟩ := World.cells?_some hc
        refine ⟨(k, cs'), fun _ => ⟨r1, r2, r3, r4, fun j u hu => ?_⟩⟩
        have hj : j < sz := by rw [← r2]; exact (List.getElem?_eq_some_iff.1 hu).1
        have h1 := hat j (by rw [hC]; exact hj)
        rw [hC] at h1
        rw [h1]; exact hu
      · exact ⟨(default, []), fun h => absurd h hil⟩
    obtain ⟨F, hF⟩ := Classical.axiomOfChoice key
    have hhl : ((List.range len).map fun i => (F i).1).length = len := by simp
    have hcl : ((List.range len).map fun i => (F i).2).length = len := by simp
    have hhat : ∀ i, i < len → ((List.range len).map fun i => (F i).1)[i]? = some (F i).1 := fun i hi => by simp [hi]
    have hcat : ∀ i, i < len → ((List.range len).map fun i => (F i).2)[i]? = some (F i).2 := fun i hi => by simp [hi]
    have hce : ∀ cs ∈ (List.range len).map fun i => (F i).2, cs.length = sz := fun cs hcs => by
      obtain ⟨i, hi, rfl⟩ := List.mem_map.1 hcs
      exact (hF i (List.mem_range.1 hi)).2.1
    refine ⟨(List.range len).map fun i => (F i).1, ⟨(List.range len).map fun i => (F i).2, by rw [hhl, hcl], hce, ?_, fun j e cs he hc => ?_⟩, ?_⟩
    · by_cases h0 : len = 0
      · subst h0; exact CellsC.nil _ _ _ _ _
      · have h00 := hF 0 (by omega)
        have hsp : a.spot = none := by
          have hl0 : 0 < (F 0).2.length := by rw [h00.2.1]; exact hsz
          have := h00.2.2.2.2 0 _ (List.getElem?_eq_getElem hl0)
          rw [Nat.zero_mul, add_none, add_none] at this
          exact spot_none this
        obtain ⟨g, o, sp⟩ := a
        simp only at hsp
        subst hsp
        refine ⟨by rw [flatten_len _ hce, hcl, hhl], fun u hu => ?_, Or.inr ⟨g, o, m, by rw [hhl], ?_, by rw [hhl]; exact hl, hm, fun j u hj => ?_⟩⟩
        · obtain ⟨cs, hcs, hu⟩ := List.mem_flatten.1 hu
          obtain ⟨i, hi, rfl⟩ := List.mem_map.1 hcs
          exact (hF i (List.mem_range.1 hi)).2.2.1 u hu
        · refine hlt (.cell g (o + 0)) ?_
          rw [hx]
          exact List.mem_append_left _ (MemPlace.mem_row.2 ⟨0, by rw [hC]; exact Nat.mul_pos (by omega) hsz, rfl⟩)
        · have hjl : j < len * sz := by
            have := (List.getElem?_eq_some_iff.1 hj).1
            rwa [flatten_len _ hce, hcl] at this
          have hd : j / sz < len := Nat.div_lt_of_lt_mul (by rw [Nat.mul_comm]; exact hjl)
          have hdm : j / sz * sz + j % sz = j := Nat.div_add_mod' j sz
          have e := flatten_at _ (j / sz) _ hce (hcat _ hd) (j % sz) (Nat.mod_lt _ hsz)
          rw [hdm, hj] at e
          have := (hF _ hd).2.2.2.2 (j % sz) u e.symm
          rw [add_pos, add_pos, Nat.add_assoc, hdm] at this
          exact this
    · have hj : j < len := by
        have := (List.getElem?_eq_some_iff.1 he).1
        rwa [hhl] at this
      rw [hhat j hj] at he
      rw [hcat j hj] at hc
      injection he with he
      injection hc with hc
      subst he hc
      exact (hF j hj).1
    · have hs : ∀ k, k ≤ len → sumR f ((List.range' (len - k) k).map fun i => (F i).1) ≤ Rows.uptoBulkAll ((List.range' (len - k) k).map D) := fun k => by
        induction k with
        | zero => intro _; simp [sumR]
        | succ k ih =>
          intro hk
          have h1 := ih (by omega)
          have h2 := (hF (len - (k + 1)) (by omega)).2.2.2.1
          rw [List.range'_succ, List.map_cons, List.map_cons, show len - (k + 1) + 1 = len - k from by omega]
          simp only [sumR, Rows.uptoBulkAll]
          omega
      have h1 := hs len (Nat.le_refl _)
      rw [Nat.sub_self, ← List.range_eq_range'] at h1
      rw [hx]
      have h2 := (bulk_slice ((List.range len).map D) ((List.range (m - len)).map fun j => D (len + j))).2
      have h3 : Rows.uptoBulk (DataW.slice ((List.range len).map D) ((List.range (m - len)).map fun j => D (len + j))) = Rows.uptoBulk (DataW.slice ((List.range len).map D) ((List.range (m - len)).map fun j => D (len + j)), MemPlace.row a (m * Try.prog.cellsOf t) ++ (List.range m).flatMap Pl).1 := rfl
      rw [← h3]
      omega
def idRel (_ : Nat → Prop) (_ : World) (e : List UInt8) (cs : List Value) : Prop := cs = bv e ∧ e.length = 32
/-- Rows of ids as ids in memory. -/
theorem ids_rows {S : Nat → Prop} {w : World} {v : Value} {l : List (List UInt8)} (h : RowsC idRel n32 S w v l) : IDsC S w v l := by
  obtain ⟨a, c, rfl⟩ := RowsC.shape h
  by_cases h0 : l = []
  · subst h0; exact Or.inl ⟨rfl, a, c, rfl⟩
  · obtain ⟨g, o, rfl, hS, hc, _, hat⟩ := RowsC.at h (List.length_pos_iff.2 h0)
    refine Or.inr ⟨⟨g, o, none⟩, c, rfl, hS, hc, fun i hi => ?_⟩
    obtain ⟨cs, _, ⟨rfl, h32⟩, h4⟩ := hat i _ (List.getElem?_eq_getElem hi)
    refine ⟨h32, fun j hj => ?_⟩
    rw [add_pos, add_pos, Nat.add_assoc]
    refine h4 j _ ?_
    have := bv_at hj
    simpa using this
theorem sumR_one {E : Type} (l : List E) : sumR (fun _ => 1) l = l.length := by
  induction l with
  | nil => rfl
  | cons x r ih => simp only [sumR, ih, List.length_cons]; omega
theorem open_idsv {fuel : Nat} {v : Value} {x : DataW H × List MemPlace} (h : DataW.trod enc Try.prog W 0 (fun _ => true) true fuel 22 [v] = some x) (hlt : ∀ p ∈ x.2, p.block < W.heap.size) :
    ∃ l, IDsC (fun k => k < W.heap.size) W v l ∧ l.length ≤ Rows.uptoBulk x.1 := by
  obtain ⟨l, hl, hs⟩ := open_recs (rel := idRel) Try.underlying22 (show Try.prog.cellsOf 27 = n32 by kernel_rfl) (by unfold n32; omega) (fun _ => 1) (fun _ cs y h1 _ => by
    obtain ⟨f, hf⟩ := open_idc h1
    exact ⟨idL f, ⟨hf, idL_len f⟩, by rw [hf, bv_len, idL_len]; rfl, by rw [hf]; exact bv_one _, bulk_one _⟩) h hlt
  rw [sumR_one] at hs
  exact ⟨l, ids_rows hl, hs⟩
set_option maxRecDepth 100000 in
theorem open_blob {base : Nat} {v : Value} {x : DataW H × List MemPlace} (hv : Value.okWide Try.prog W .any base 24 v) {fuel : Nat} (h : DataW.trod enc Try.prog W 0 (fun _ => true) true fuel 24 v.cells.toList = some x) (hlt : ∀ p ∈ x.2, p.block < W.heap.size) :
    ∃ (a : Option Addr) (n c : Nat) (l : List (List UInt8)) (sz : Int), v = .agg #[.slice a n c, .int .i64 sz] ∧ IDsC (fun k => k < W.heap.size) W (.slice a n c) l ∧ l.length = n ∧ l.length ≤ Rows.uptoBulk x.1 ∧ -9223372036854775808 ≤ sz ∧ sz ≤ 9223372036854775807 := by
  have hC : Try.prog.cellsOf 24 = 2 := by kernel_rfl
  have hE0 : Try.prog.cellsOf 22 = 1 := by kernel_rfl
  have hE1 : Try.prog.cellsOf 3 = 1 := by kernel_rfl
  obtain ⟨cs, rfl, hsz, _⟩ : ∃ cs, v = .agg cs ∧ cs.size = Try.prog.cellsOf 24 ∧ Row.okWide Try.prog W .any base 24 cs := by
    simp only [Value.okWide, Try.underlying24] at hv
    exact hv
  rw [hC] at hsz
  obtain ⟨l⟩ := cs
  match l, hsz with
  | [c0, c1], _ =>
    have hh : DataW.trod enc Try.prog W 0 (fun _ => true) true fuel 24 [c0, c1] = some x := by simpa [Value.cells] using h
    obtain ⟨xs, n, _, hx, hcl, hlen, hf⟩ := DataW.trod_struct Try.underlying24 hh
    have h0 : DataW.trod enc Try.prog W 0 (fun _ => true) true n 22 (([c0, c1].drop 0).take (Try.prog.cellsOf 22)) = xs[0]? := hf 0 _ rfl
    have h1 : DataW.trod enc Try.prog W 0 (fun _ => true) true n 3 (([c0, c1].drop 1).take (Try.prog.cellsOf 3)) = xs[1]? := hf 1 _ rfl
    rw [hE0] at h0
    rw [hE1] at h1
    match xs, hlen with
    | [y0, y1], _ =>
      simp only [List.getElem?_cons_zero, List.getElem?_cons_succ, List.drop_zero, List.drop_succ_cons, List.take_succ_cons, List.take_zero, List.take_nil] at h0 h1
      obtain ⟨k, e1, rfl, hw⟩ := DataW.trod_int Try.underlying3 h1
      injection e1 with e1 _
      subst e1 hx
      obtain ⟨l0, t0, b0⟩ := open_idsv h0 (fun p hp => hlt p (by simp [hp]))
      obtain ⟨a, c, rfl⟩ := t0.shape
      have hk := bounds_i64 hw
      refine ⟨a, _, c, l0, k, rfl, t0, rfl, ?_, hk.1, hk.2⟩
      simp only [List.map_cons, List.map_nil, Rows.uptoBulk, Rows.uptoBulkAll]
      omega
def entB (e : EntN) : Nat := e.name.length + 1
def entOk (_ : Nat → Prop) (_ : World) (e : EntN) (cs : List Value) : Prop := cs = rowL n35 (entF e) ∧ e.id.length = 32 ∧ e.stamp < 18446744073709551616
instance : Inhabited EntN := ⟨noEnt⟩
set_option maxRecDepth 100000 in
theorem open_entc {fuel : Nat} {cs : List Value} {x : DataW H × List MemPlace} (h : DataW.trod enc Try.prog W 0 (fun _ => true) true fuel 76 cs = some x) :
    ∃ k : EntN, cs = rowL n35 (entF k) ∧ entB k ≤ Rows.uptoBulk x.1 ∧ k.id.length = 32 ∧ k.stamp < 18446744073709551616 := by
  obtain ⟨xs, n, _, hx, hcl, hlen, hf⟩ := DataW.trod_struct Try.underlying76 h
  have hC : Try.prog.cellsOf 76 = 35 := by kernel_rfl
  have hE0 : Try.prog.cellsOf 9 = 1 := by kernel_rfl
  have hE1 : Try.prog.cellsOf 4 = 1 := by kernel_rfl
  have hE2 : Try.prog.cellsOf 27 = 32 := by kernel_rfl
  have hE3 : Try.prog.cellsOf 28 = 1 := by kernel_rfl
  rw [hC] at hcl
  have h0 : DataW.trod enc Try.prog W 0 (fun _ => true) true n 9 ((cs.drop 0).take (Try.prog.cellsOf 9)) = xs[0]? := hf 0 _ rfl
  have h1 : DataW.trod enc Try.prog W 0 (fun _ => true) true n 4 ((cs.drop 1).take (Try.prog.cellsOf 4)) = xs[1]? := hf 1 _ rfl
  have h2 : DataW.trod enc Try.prog W 0 (fun _ => true) true n 27 ((cs.drop 2).take (Try.prog.cellsOf 27)) = xs[2]? := hf 2 _ rfl
  have h3 : DataW.trod enc Try.prog W 0 (fun _ => true) true n 28 ((cs.drop 34).take (Try.prog.cellsOf 28)) = xs[3]? := hf 3 _ rfl
  rw [hE0] at h0
  rw [hE1] at h1
  rw [hE2] at h2
  rw [hE3] at h3
  match xs, hlen with
  | [y0, y1, y2, y3], _ =>
    simp only [List.getElem?_cons_zero, List.getElem?_cons_succ] at h0 h1 h2 h3
    obtain ⟨s, hs, rfl, _⟩ := DataW.trod_string Try.underlying9 h0
    obtain ⟨b, hb, _⟩ := DataW.trod_bool Try.underlying4 h1
    obtain ⟨f, hfid⟩ := open_idc h2
    obtain ⟨st, hst, _, w2⟩ := trod_float Try.underlying28 h3
    subst hx
    refine ⟨⟨s.data.toList, b, idL f, st⟩, rowL_ext (by rw [hcl]; rfl) (fun k hk => ?_), ?_, idL_len f, by simpa [Lit.wf, FloatKind.format] using w2⟩
    · have hk35 : k < 35 := hk
      unfold entF
      by_cases k0 : k = 0
      · subst k0
        rw [if_pos rfl]
        have e : ((cs.drop 0).take 1)[0]? = some (.string s) := by rw [hs]; rfl
        rw [List.getElem?_take, if_pos (by omega), List.getElem?_drop] at e
        simpa using e
      · rw [if_neg k0]
        by_cases k1 : k = 1
        · subst k1
          rw [if_pos rfl]
          have e : ((cs.drop 1).take 1)[0]? = some (.bool b) := by rw [hb]; rfl
          rw [List.getElem?_take, if_pos (by omega), List.getElem?_drop] at e
          simpa using e
        · rw [if_neg k1]
          by_cases k2 : k < 34
          · rw [if_pos k2]
            have hkl : k - 2 < (idL f).length := by rw [idL_len]; omega
            have e : ((cs.drop 2).take 32)[k - 2]? = some (.int .u8 (((idL f).getD (k - 2) 0).toNat : Int)) := by
              rw [hfid]
              unfold bv
              rw [List.getElem?_map, List.getElem?_eq_getElem hkl]
              simp [List.getD, hkl]
            rw [List.getElem?_take, if_pos (by omega), List.getElem?_drop, show 2 + (k - 2) = k by omega] at e
            exact e
          · rw [if_neg k2]
            have e : ((cs.drop 34).take 1)[0]? = some (.float .f64 st) := by rw [hst]; rfl
            rw [List.getElem?_take, if_pos (by omega), List.getElem?_drop, show 34 + 0 = k by omega] at e
            exact e
    · simp only [List.map_cons, List.map_nil, Rows.uptoBulk, Rows.uptoBulkAll, entB]
      omega
theorem open_entsv {fuel : Nat} {v : Value} {x : DataW H × List MemPlace} (h : DataW.trod enc Try.prog W 0 (fun _ => true) true fuel 25 [v] = some x) (hlt : ∀ p ∈ x.2, p.block < W.heap.size) :
    ∃ l, (EntsC (fun k => k < W.heap.size) W v l ∧ ∀ e ∈ l, e.id.length = 32 ∧ e.stamp < 18446744073709551616) ∧ sumR entB l ≤ Rows.uptoBulk x.1 := by
  obtain ⟨l, hl, hs⟩ := open_recs (rel := entOk) Try.underlying25 (show Try.prog.cellsOf 76 = n35 by kernel_rfl) (by unfold n35; omega) entB (fun _ cs y h1 _ => by
    obtain ⟨k, hk, hb, h32, hs⟩ := open_entc h1
    exact ⟨k, ⟨hk, h32, hs⟩, by rw [hk, rowL_len], by rw [hk]; exact rowL_one (ent_one k _), hb⟩) h hlt
  obtain ⟨css, h1, h2, h3, h4⟩ := hl
  refine ⟨l, ⟨⟨css, h1, h2, h3, fun j e cs he hc => (h4 j e cs he hc).1⟩, fun f hf => ?_⟩, hs⟩
  obtain ⟨j, hj, rfl⟩ := List.getElem_of_mem hf
  exact (h4 j l[j] (css[j]'(by omega)) (List.getElem?_eq_getElem hj) (List.getElem?_eq_getElem (by omega))).2
set_option maxRecDepth 100000 in
theorem open_com {base : Nat} {v : Value} {x : DataW H × List MemPlace} (hv : Value.okWide Try.prog W .any base 30 v) {fuel : Nat} (h : DataW.trod enc Try.prog W 0 (fun _ => true) true fuel 30 v.cells.toList = some x) (hlt : ∀ p ∈ x.2, p.block < W.heap.size) :
    ∃ (a : Option Addr) (n c : Nat) (k : ComN), v = .agg (rowL n36 (comF k.tree a n c k.stamp k.author k.note)).toArray ∧ IDsC (fun k => k < W.heap.size) W (.slice a n c) k.parents ∧ k.parents.length = n ∧ k.tree.length = 32 ∧ k.stamp < 18446744073709551616 ∧ k.parents.length + k.author.length + k.note.length ≤ Rows.uptoBulk x.1 := by
  obtain ⟨cs, rfl, hsz, _⟩ : ∃ cs, v = .agg cs ∧ cs.size = Try.prog.cellsOf 30 ∧ Row.okWide Try.prog W .any base 30 cs := by
    simp only [Value.okWide, Try.underlying30] at hv
    exact hv
  obtain ⟨cs⟩ := cs
  have hh : DataW.trod enc Try.prog W 0 (fun _ => true) true fuel 30 cs = some x := by simpa [Value.cells] using h
  clear hsz h
  obtain ⟨xs, n, _, hx, hcl, hlen, hf⟩ := DataW.trod_struct Try.underlying30 hh
  have hC : Try.prog.cellsOf 30 = 36 := by kernel_rfl
  have hE0 : Try.prog.cellsOf 27 = 32 := by kernel_rfl
  have hE1 : Try.prog.cellsOf 22 = 1 := by kernel_rfl
  have hE2 : Try.prog.cellsOf 28 = 1 := by kernel_rfl
  have hE3 : Try.prog.cellsOf 9 = 1 := by kernel_rfl
  rw [hC] at hcl
  have h0 : DataW.trod enc Try.prog W 0 (fun _ => true) true n 27 ((cs.drop 0).take (Try.prog.cellsOf 27)) = xs[0]? := hf 0 _ rfl
  have h1 : DataW.trod enc Try.prog W 0 (fun _ => true) true n 22 ((cs.drop 32).take (Try.prog.cellsOf 22)) = xs[1]? := hf 1 _ rfl
  have h2 : DataW.trod enc Try.prog W 0 (fun _ => true) true n 28 ((cs.drop 33).take (Try.prog.cellsOf 28)) = xs[2]? := hf 2 _ rfl
  have h3 : DataW.trod enc Try.prog W 0 (fun _ => true) true n 9 ((cs.drop 34).take (Try.prog.cellsOf 9)) = xs[3]? := hf 3 _ rfl
  have h4 : DataW.trod enc Try.prog W 0 (fun _ => true) true n 9 ((cs.drop 35).take (Try.prog.cellsOf 9)) = xs[4]? := hf 4 _ rfl
  rw [hE0] at h0
  rw [hE1] at h1
  rw [hE2] at h2
  rw [hE3] at h3 h4
  match xs, hlen with
  | [y0, y1, y2, y3, y4], _ =>
    simp only [List.getElem?_cons_zero, List.getElem?_cons_succ] at h0 h1 h2 h3 h4
    obtain ⟨f, hfid⟩ := open_idc h0
    have hc1 : (cs.drop 32).take 1 = [cs[32]'(by omega)] := by
      rw [List.drop_eq_getElem_cons (show 32 < cs.length by omega)]; rfl
    rw [hc1] at h1
    generalize hq : cs[32]'(by omega) = q at h1 hc1
    obtain ⟨st, hst, _, w2⟩ := trod_float Try.underlying28 h2
    obtain ⟨s, hs, rfl, _⟩ := DataW.trod_string Try.underlying9 h3
    obtain ⟨s2, hs2, rfl, _⟩ := DataW.trod_string Try.underlying9 h4
    subst hx
    obtain ⟨l0, t0, b0⟩ := open_idsv h1 (fun p hp => hlt p (by simp [hp]))
    obtain ⟨a, c, rfl⟩ := t0.shape
    refine ⟨a, l0.length, c, ⟨idL f, l0, st, s.data.toList, s2.data.toList⟩, ?_, t0, rfl, idL_len f, by simpa [Lit.wf, FloatKind.format] using w2, ?_⟩
    · congr 2
      refine rowL_ext (by rw [hcl]; rfl) (fun k hk => ?_)
      have hk36 : k < 36 := hk
      simp only [comF]
      by_cases k0 : k < 32
      · rw [if_pos k0]
        have hkl : k < (idL f).length := by rw [idL_len]; omega
        have e : ((cs.drop 0).take 32)[k]? = some (.int .u8 (((idL f).getD k 0).toNat : Int)) := by
          rw [hfid]
          unfold bv
          rw [List.getElem?_map, List.getElem?_eq_getElem hkl]
          simp [List.getD, hkl]
        rw [List.getElem?_take, if_pos (by omega), List.getElem?_drop] at e
        simpa using e
      · rw [if_neg k0]
        by_cases k1 : k = 32
        · subst k1
          rw [if_pos rfl, List.getElem?_eq_getElem (by omega), hq]
        · rw [if_neg k1]
          by_cases k2 : k = 33
          · subst k2
            rw [if_pos rfl]
            have e : ((cs.drop 33).take 1)[0]? = some (.float .f64 st) := by rw [hst]; rfl
            rw [List.getElem?_take, if_pos (by omega), List.getElem?_drop] at e
            simpa using e
          · rw [if_neg k2]
            by_cases k3 : k = 34
            · subst k3
              rw [if_pos rfl]
              have e : ((cs.drop 34).take 1)[0]? = some (.string s) := by rw [hs]; rfl
              rw [List.getElem?_take, if_pos (by omega), List.getElem?_drop] at e
              simpa using e
            · rw [if_neg k3]
              have k4 : k = 35 := by omega
              subst k4
              have e : ((cs.drop 35).take 1)[0]? = some (.string s2) := by rw [hs2]; rfl
              rw [List.getElem?_take, if_pos (by omega), List.getElem?_drop] at e
              simpa using e
    · simp only [List.map_cons, List.map_nil, Rows.uptoBulk, Rows.uptoBulkAll, Array.length_toList]
      simp only [ByteArray.size] at *
      omega
end
theorem ents_fine {l : List EntN} {n : Nat} (h : sumR entB l ≤ n) (hn : n ≤ 1048576) (hs : ∀ e ∈ l, e.id.length = 32 ∧ e.stamp < 18446744073709551616) : ∀ e ∈ l, e.name.length ≤ 1048576 ∧ e.id.length = 32 ∧ e.stamp < 18446744073709551616 := fun e he => by
  have h1 : e.name.length + 1 ≤ sumR entB l := sumR_mem entB l e he
  exact ⟨by omega, hs e he⟩
theorem ents_len {l : List EntN} {n : Nat} (h : sumR entB l ≤ n) : l.length ≤ n := Nat.le_trans (sumR_len (fun e => by unfold entB; omega) l) h
end Go.Proofs.Ytdolonkeanlaoaa
