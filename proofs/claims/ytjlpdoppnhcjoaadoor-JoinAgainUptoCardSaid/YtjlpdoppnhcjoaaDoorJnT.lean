/- The laws' awake: two merges of literals. -/
import Derived.Test.YtjlpdoppnhcjoaaDoorJnR
namespace Go.Proofs.YtjlpdoppnhcjoaaDoor
open Go.RowKit Go.Lib
def idN (n : UInt8) (k : Nat) : UInt8 := if k = 0 then n else 0
def awB : List BlobN := [⟨idN 1, [97, 10, 98, 10, 99, 10], 0⟩, ⟨idN 2, [120, 10, 98, 10, 99, 10], 0⟩, ⟨idN 3, [97, 10, 98, 10, 121, 10], 0⟩]
def awL (i : Nat) : List FileN := if i = 0 then [⟨[112], idN 1, 0⟩] else if i = 1 then [⟨[112], idN 2, 4607182418800017408⟩] else [⟨[112], idN 3, 4611686018427387904⟩]
def awM (i : Nat) : List FileN := if i = 0 then [] else if i = 1 then [⟨[112], idN 2, 0⟩] else [⟨[112, 47, 113], idN 3, 0⟩]
/-- What is looked at of outcomes. -/
def seenO (m : OutM) : Int × Nat × List UInt8 := (m.1.kind, m.1.stamp, m.2)
theorem aw_one : ((mergeT (fun f => textOf f awB) awL).1, (mergeT (fun f => textOf f awB) awL).2.map seenO) = (0, [(2, 4611686018427387904, [120, 10, 98, 10, 121, 10])]) := by kernel_rfl
theorem aw_two : ((mergeT (fun f => textOf f awB) awM).1, ((mergeT (fun f => textOf f awB) awM).2.map seenO).map (fun x => x.1)) = (0, [1, 4]) := by kernel_rfl
theorem seen_bare {ms : List OutM} {M : List OutM} (h : ms.map bare = M) : ms.map seenO = M.map seenO := by
  rw [← h, List.map_map]; rfl
/-- A row of records, made at once. -/
theorem rows_lit {E : Type} {rel : (Nat → Prop) → World → E → List Value → Prop} {sz : Nat} (f : E → List Value) (hrel : ∀ S w e, rel S w e (f e)) (hf : ∀ e, (f e).length = sz ∧ ∀ u ∈ f e, u.oneCell' = true) (S : Nat → Prop) (W : World) (g : Nat) (es : List E) (cs : Array Value) (t : TypeId)
    (hg : W.heap[g]? = some (.cells cs t (0, 0))) (hS : S g) (hc : cs = (es.map f).flatten.toArray) (hl : es.length ≤ 1000) : RowsC rel sz S W (.slice (some ⟨g, 0, none⟩) es.length es.length) es := by
  have h1 : ∀ c ∈ es.map f, c.length = sz := fun c hc => by
    obtain ⟨e, _, rfl⟩ := List.mem_map.1 hc
    exact (hf e).1
  refine ⟨es.map f, by simp, h1, ⟨by rw [flatten_len _ h1]; simp, fun u hu => ?_, Or.inr ⟨g, 0, es.length, rfl, hS, Nat.le_refl _, by unfold maxLen; omega, fun j u hj => ?_⟩⟩, fun j e cs he hcs => ?_⟩
  · obtain ⟨c, hc, hu⟩ := List.mem_flatten.1 hu
    obtain ⟨e, _, rfl⟩ := List.mem_map.1 hc
    exact (hf e).2 u hu
  · rw [Nat.zero_add, cell_of_row _ _ _ _ _ _ hg, hc]
    simpa using hj
  · rw [List.getElem?_map, he] at hcs
    injection hcs with hcs
    subst hcs
    exact hrel _ _ _
theorem files_lit (S : Nat → Prop) (W : World) (g : Nat) (es : List FileN) (cs : Array Value) (t : TypeId) (hg : W.heap[g]? = some (.cells cs t (0, 0))) (hS : S g) (hc : cs = (es.map fun f => rowL n34 (fileF f)).flatten.toArray) (hl : es.length ≤ 1000) : FilesC S W (.slice (some ⟨g, 0, none⟩) es.length es.length) es :=
  rows_lit (rel := fileRel) (fun f => rowL n34 (fileF f)) (fun _ _ _ => rfl) (fun f => ⟨rowL_len _ _, rowL_one (file_one f _)⟩) S W g es cs t hg hS hc hl
theorem blob_one (b : BlobN) (n : Nat) : OneC n (blobF b) := fun k _ => by
  unfold blobF
  split
  · rfl
  · split <;> rfl
theorem blobs_lit (S : Nat → Prop) (W : World) (g : Nat) (es : List BlobN) (cs : Array Value) (t : TypeId) (hg : W.heap[g]? = some (.cells cs t (0, 0))) (hS : S g) (hc : cs = (es.map fun b => rowL n34 (blobF b)).flatten.toArray) (hl : es.length ≤ 1000) : BlobsC S W (.slice (some ⟨g, 0, none⟩) es.length es.length) es :=
  rows_lit (rel := blobRel) (fun b => rowL n34 (blobF b)) (fun _ _ _ => rfl) (fun b => ⟨rowL_len _ _, rowL_one (blob_one b _)⟩) S W g es cs t hg hS hc hl
theorem awB_len : ∀ b ∈ awB, b.text.length ≤ 600 := by
  intro b hb
  simp [awB] at hb
  rcases hb with rfl | rfl | rfl <;> decide
def lit0 : Array Value := #[Value.int IntKind.u8 1, Value.int IntKind.u8 0, Value.int IntKind.u8 0, Value.int IntKind.u8 0, Value.int IntKind.u8 0, Value.int IntKind.u8 0, Value.int IntKind.u8 0, Value.int IntKind.u8 0, Value.int IntKind.u8 0, Value.int IntKind.u8 0, Value.int IntKind.u8 0, Value.int IntKind.u8 0, Value.int IntKind.u8 0, Value.int IntKind.u8 0, Value.int IntKind.u8 0, Value.int IntKind.u8 0, Value.int IntKind.u8 0, Value.int IntKind.u8 0, Value.int IntKind.u8 0, Value.int IntKind.u8 0, Value.int IntKind.u8 0, Value.int IntKind.u8 0, Value.int IntKind.u8 0, Value.int IntKind.u8 0, Value.int IntKind.u8 0, Value.int IntKind.u8 0, Value.int IntKind.u8 0, Value.int IntKind.u8 0, Value.int IntKind.u8 0, Value.int IntKind.u8 0, Value.int IntKind.u8 0, Value.int IntKind.u8 0, Value.string { data := #[97, 10, 98, 10, 99, 10] }, Value.int IntKind.i64 0, Value.int IntKind.u8 2, Value.int IntKind.u8 0, Value.int IntKind.u8 0, Value.int IntKind.u8 0, Value.int IntKind.u8 0, Value.int IntKind.u8 0, Value.int IntKind.u8 0, Value.int IntKind.u8 0, Value.int IntKind.u8 0, Value.int IntKind.u8 0, Value.int IntKind.u8 0, Value.int IntKind.u8 0, Value.int IntKind.u8 0, Value.int IntKind.u8 0, Value.int IntKind.u8 0, Value.int IntKind.u8 0, Value.int IntKind.u8 0, Value.int IntKind.u8 0, Value.int IntKind.u8 0, Value.int IntKind.u8 0, Value.int IntKind.u8 0, Value.int IntKind.u8 0, Value.int IntKind.u8 0, Value.int IntKind.u8 0, Value.int IntKind.u8 0, Value.int IntKind.u8 0, Value.int IntKind.u8 0, Value.int IntKind.u8 0, Value.int IntKind.u8 0, Value.int IntKind.u8 0, Value.int IntKind.u8 0, Value.int IntKind.u8 0, Value.string { data := #[120, 10, 98, 10, 99, 10] }, Value.int IntKind.i64 0, Value.int IntKind.u8 3, Value.int IntKind.u8 0, Value.int IntKind.u8 0, Value.int IntKind.u8 0, Value.int IntKind.u8 0, Value.int IntKind.u8 0, Value.int IntKind.u8 0, Value.int IntKind.u8 0, Value.int IntKind.u8 0, Value.int IntKind.u8 0, Value.int IntKind.u8 0, Value.int IntKind.u8 0, Value.int IntKind.u8 0, Value.int IntKind.u8 0, Value.int IntKind.u8 0, Value.int IntKind.u8 0, Value.int IntKind.u8 0, Value.int IntKind.u8 0, Value.int IntKind.u8 0, Value.int IntKind.u8 0, Value.int IntKind.u8 0, Value.int IntKind.u8 0, Value.int IntKind.u8 0, Value.int IntKind.u8 0, Value.int IntKind.u8 0, Value.int IntKind.u8 0, Value.int IntKind.u8 0, Value.int IntKind.u8 0, Value.int IntKind.u8 0, Value.int IntKind.u8 0, Value.int IntKind.u8 0, Value.int IntKind.u8 0, Value.string { data := #[97, 10, 98, 10, 121, 10] }, Value.int IntKind.i64 0]
def lit1 : Array Value := #[Value.string { data := #[112] }, Value.int IntKind.u8 1, Value.int IntKind.u8 0, Value.int IntKind.u8 0, Value.int IntKind.u8 0, Value.int IntKind.u8 0, Value.int IntKind.u8 0, Value.int IntKind.u8 0, Value.int IntKind.u8 0, Value.int IntKind.u8 0, Value.int IntKind.u8 0, Value.int IntKind.u8 0, Value.int IntKind.u8 0, Value.int IntKind.u8 0, Value.int IntKind.u8 0, Value.int IntKind.u8 0, Value.int IntKind.u8 0, Value.int IntKind.u8 0, Value.int IntKind.u8 0, Value.int IntKind.u8 0, Value.int IntKind.u8 0, Value.int IntKind.u8 0, Value.int IntKind.u8 0, Value.int IntKind.u8 0, Value.int IntKind.u8 0, Value.int IntKind.u8 0, Value.int IntKind.u8 0, Value.int IntKind.u8 0, Value.int IntKind.u8 0, Value.int IntKind.u8 0, Value.int IntKind.u8 0, Value.int IntKind.u8 0, Value.int IntKind.u8 0, Value.float FloatKind.f64 0]
def lit2 : Array Value := #[Value.string { data := #[112] }, Value.int IntKind.u8 2, Value.int IntKind.u8 0, Value.int IntKind.u8 0, Value.int IntKind.u8 0, Value.int IntKind.u8 0, Value.int IntKind.u8 0, Value.int IntKind.u8 0, Value.int IntKind.u8 0, Value.int IntKind.u8 0, Value.int IntKind.u8 0, Value.int IntKind.u8 0, Value.int IntKind.u8 0, Value.int IntKind.u8 0, Value.int IntKind.u8 0, Value.int IntKind.u8 0, Value.int IntKind.u8 0, Value.int IntKind.u8 0, Value.int IntKind.u8 0, Value.int IntKind.u8 0, Value.int IntKind.u8 0, Value.int IntKind.u8 0, Value.int IntKind.u8 0, Value.int IntKind.u8 0, Value.int IntKind.u8 0, Value.int IntKind.u8 0, Value.int IntKind.u8 0, Value.int IntKind.u8 0, Value.int IntKind.u8 0, Value.int IntKind.u8 0, Value.int IntKind.u8 0, Value.int IntKind.u8 0, Value.int IntKind.u8 0, Value.float FloatKind.f64 4607182418800017408]
def lit3 : Array Value := #[Value.string { data := #[112] }, Value.int IntKind.u8 3, Value.int IntKind.u8 0, Value.int IntKind.u8 0, Value.int IntKind.u8 0, Value.int IntKind.u8 0, Value.int IntKind.u8 0, Value.int IntKind.u8 0, Value.int IntKind.u8 0, Value.int IntKind.u8 0, Value.int IntKind.u8 0, Value.int IntKind.u8 0, Value.int IntKind.u8 0, Value.int IntKind.u8 0, Value.int IntKind.u8 0, Value.int IntKind.u8 0, Value.int IntKind.u8 0, Value.int IntKind.u8 0, Value.int IntKind.u8 0, Value.int IntKind.u8 0, Value.int IntKind.u8 0, Value.int IntKind.u8 0, Value.int IntKind.u8 0, Value.int IntKind.u8 0, Value.int IntKind.u8 0, Value.int IntKind.u8 0, Value.int IntKind.u8 0, Value.int IntKind.u8 0, Value.int IntKind.u8 0, Value.int IntKind.u8 0, Value.int IntKind.u8 0, Value.int IntKind.u8 0, Value.int IntKind.u8 0, Value.float FloatKind.f64 4611686018427387904]
def lit4 : Array Value := #[Value.string { data := #[112] }, Value.int IntKind.u8 2, Value.int IntKind.u8 0, Value.int IntKind.u8 0, Value.int IntKind.u8 0, Value.int IntKind.u8 0, Value.int IntKind.u8 0, Value.int IntKind.u8 0, Value.int IntKind.u8 0, Value.int IntKind.u8 0, Value.int IntKind.u8 0, Value.int IntKind.u8 0, Value.int IntKind.u8 0, Value.int IntKind.u8 0, Value.int IntKind.u8 0, Value.int IntKind.u8 0, Value.int IntKind.u8 0, Value.int IntKind.u8 0, Value.int IntKind.u8 0, Value.int IntKind.u8 0, Value.int IntKind.u8 0, Value.int IntKind.u8 0, Value.int IntKind.u8 0, Value.int IntKind.u8 0, Value.int IntKind.u8 0, Value.int IntKind.u8 0, Value.int IntKind.u8 0, Value.int IntKind.u8 0, Value.int IntKind.u8 0, Value.int IntKind.u8 0, Value.int IntKind.u8 0, Value.int IntKind.u8 0, Value.int IntKind.u8 0, Value.float FloatKind.f64 0]
def lit5 : Array Value := #[Value.string { data := #[112, 47, 113] }, Value.int IntKind.u8 3, Value.int IntKind.u8 0, Value.int IntKind.u8 0, Value.int IntKind.u8 0, Value.int IntKind.u8 0, Value.int IntKind.u8 0, Value.int IntKind.u8 0, Value.int IntKind.u8 0, Value.int IntKind.u8 0, Value.int IntKind.u8 0, Value.int IntKind.u8 0, Value.int IntKind.u8 0, Value.int IntKind.u8 0, Value.int IntKind.u8 0, Value.int IntKind.u8 0, Value.int IntKind.u8 0, Value.int IntKind.u8 0, Value.int IntKind.u8 0, Value.int IntKind.u8 0, Value.int IntKind.u8 0, Value.int IntKind.u8 0, Value.int IntKind.u8 0, Value.int IntKind.u8 0, Value.int IntKind.u8 0, Value.int IntKind.u8 0, Value.int IntKind.u8 0, Value.int IntKind.u8 0, Value.int IntKind.u8 0, Value.int IntKind.u8 0, Value.int IntKind.u8 0, Value.int IntKind.u8 0, Value.int IntKind.u8 0, Value.float FloatKind.f64 0]
theorem lit_facts : lit0 = (awB.map fun b => rowL n34 (blobF b)).flatten.toArray ∧ lit1 = ((awL 0).map fun f => rowL n34 (fileF f)).flatten.toArray ∧ lit2 = ((awL 1).map fun f => rowL n34 (fileF f)).flatten.toArray ∧ lit3 = ((awL 2).map fun f => rowL n34 (fileF f)).flatten.toArray ∧ lit4 = ((awM 1).map fun f => rowL n34 (fileF f)).flatten.toArray ∧ lit5 = ((awM 2).map fun f => rowL n34 (fileF f)).flatten.toArray := ⟨by kernel_rfl, by kernel_rfl, by kernel_rfl, by kernel_rfl, by kernel_rfl, by kernel_rfl⟩
theorem awL_path (i : Nat) : ∀ f ∈ awL i, f.path.length ≤ 4194304 ∧ f.stamp < 18446744073709551616 := by
  intro f hf
  unfold awL at hf
  split at hf
  · simp at hf; subst hf; exact ⟨by decide, by decide⟩
  · split at hf
    · simp at hf; subst hf; exact ⟨by decide, by decide⟩
    · simp at hf; subst hf; exact ⟨by decide, by decide⟩
theorem awM_path (i : Nat) : ∀ f ∈ awM i, f.path.length ≤ 4194304 ∧ f.stamp < 18446744073709551616 := by
  intro f hf
  unfold awM at hf
  split at hf
  · cases hf
  · split at hf
    · simp at hf; subst hf; exact ⟨by decide, by decide⟩
    · simp at hf; subst hf; exact ⟨by decide, by decide⟩
def W4 (w : World) : World := (((w.alloc (.cells lit0 67)).alloc (.cells lit1 44)).alloc (.cells lit2 44)).alloc (.cells lit3 44)
theorem W4_facts (w : World) : (W4 w).heap[w.heap.size]? = some (.cells lit0 67 (0, 0)) ∧ (W4 w).heap[w.heap.size + 1]? = some (.cells lit1 44 (0, 0)) ∧ (W4 w).heap[w.heap.size + 1 + 1]? = some (.cells lit2 44 (0, 0)) ∧ (W4 w).heap[w.heap.size + 1 + 1 + 1]? = some (.cells lit3 44 (0, 0)) ∧ Below w.heap.size w (W4 w) ∧ (W4 w).heap.size = w.heap.size + 1 + 1 + 1 + 1 := by
  have e1 : (w.alloc (.cells lit0 67)).heap.size = w.heap.size + 1 := by simp
  have e2 : ((w.alloc (.cells lit0 67)).alloc (.cells lit1 44)).heap.size = w.heap.size + 1 + 1 := by simp
  have e3 : (((w.alloc (.cells lit0 67)).alloc (.cells lit1 44)).alloc (.cells lit2 44)).heap.size = w.heap.size + 1 + 1 + 1 := by simp
  have s0 := new_five w lit0 67
  have s1 := new_five (w.alloc (.cells lit0 67)) lit1 44
  have s2 := new_five ((w.alloc (.cells lit0 67)).alloc (.cells lit1 44)) lit2 44
  have s3 := new_five (((w.alloc (.cells lit0 67)).alloc (.cells lit1 44)).alloc (.cells lit2 44)) lit3 44
  rw [e1] at s1
  rw [e2] at s2
  rw [e3] at s3
  refine ⟨?_, ?_, ?_, s3, ?_, by unfold W4; simp⟩
  · exact (Below.heap_alloc _ _ _ (by rw [e3]; omega)).trans ((Below.heap_alloc _ _ _ (by rw [e2]; omega)).trans ((Below.heap_alloc _ _ _ (by rw [e1]; omega)).trans s0))
  · exact (Below.heap_alloc _ _ _ (by rw [e3]; omega)).trans ((Below.heap_alloc _ _ _ (by rw [e2]; omega)).trans s1)
  · exact (Below.heap_alloc _ _ _ (by rw [e3]; omega)).trans s2
  · exact ((((Below.refl w.heap.size w).alloc (Nat.le_refl _) _).alloc (by rw [e1]; omega) _).alloc (by rw [e2]; omega) _).alloc (by rw [e3]; omega) _
def W2 (w : World) : World := (w.alloc (.cells lit4 44)).alloc (.cells lit5 44)
theorem W2_facts (w : World) : (W2 w).heap[w.heap.size]? = some (.cells lit4 44 (0, 0)) ∧ (W2 w).heap[w.heap.size + 1]? = some (.cells lit5 44 (0, 0)) ∧ Below w.heap.size w (W2 w) ∧ (W2 w).heap.size = w.heap.size + 1 + 1 := by
  have e1 : (w.alloc (.cells lit4 44)).heap.size = w.heap.size + 1 := by simp
  have s0 := new_five w lit4 44
  have s1 := new_five (w.alloc (.cells lit4 44)) lit5 44
  rw [e1] at s1
  refine ⟨?_, s1, ?_, by unfold W2; simp⟩
  · exact (Below.heap_alloc _ _ _ (by rw [e1]; omega)).trans s0
  · exact ((Below.refl w.heap.size w).alloc (Nat.le_refl _) _).alloc (by rw [e1]; omega) _
/-- The first merge. -/
theorem aw_merge1 (w : World) (hE : PEnv w) : Calls Tryd.prog 10 #[.agg #[.slice (some ⟨w.heap.size + 1, 0, none⟩) 1 1, .slice (some ⟨w.heap.size + 1 + 1, 0, none⟩) 1 1, .slice (some ⟨w.heap.size + 1 + 1 + 1, 0, none⟩) 1 1], .iface 33 (.agg #[.slice (some ⟨w.heap.size, 0, none⟩) 3 3])] (W4 w) (MergQ (mergeT (fun f => textOf f awB) awL) (W4 w)) := by
  obtain ⟨k0, k1, k2, k3, hb, hs⟩ := W4_facts w
  obtain ⟨l0, l1, l2, l3, _, _⟩ := lit_facts
  have h := merg_any (fun k => k < (W4 w).heap.size) (.slice (some ⟨w.heap.size, 0, none⟩) 3 3) awB (fun i => if i = 0 then some ⟨w.heap.size + 1, 0, none⟩ else if i = 1 then some ⟨w.heap.size + 1 + 1, 0, none⟩ else some ⟨w.heap.size + 1 + 1 + 1, 0, none⟩) (fun _ => 1) awL (W4 w) (fun _ h => h)
    (blobs_lit _ _ _ awB _ _ k0 (by rw [hs]; omega) l0 (by decide)) (by decide) awB_len
    (fun i hi => by
      have h3 : i = 0 ∨ i = 1 ∨ i = 2 := by omega
      rcases h3 with rfl | rfl | rfl
      · exact files_lit _ _ _ (awL 0) _ _ k1 (by rw [hs]; omega) l1 (by decide)
      · exact files_lit _ _ _ (awL 1) _ _ k2 (by rw [hs]; omega) l2 (by decide)
      · exact files_lit _ _ _ (awL 2) _ _ k3 (by rw [hs]; omega) l3 (by decide))
    (fun i _ f hf => (awL_path i f hf).1) (fun i _ f hf => (awL_path i f hf).2) (hE.on hb)
  exact h
/-- The second one. -/
theorem aw_merge2 (w : World) (g : Nat) (hE : PEnv w) (hg : g < w.heap.size) (hbl : w.heap[g]? = some (.cells lit0 67 (0, 0))) : Calls Tryd.prog 10 #[.agg #[.slice none 0 0, .slice (some ⟨w.heap.size, 0, none⟩) 1 1, .slice (some ⟨w.heap.size + 1, 0, none⟩) 1 1], .iface 33 (.agg #[.slice (some ⟨g, 0, none⟩) 3 3])] (W2 w) (MergQ (mergeT (fun f => textOf f awB) awM) (W2 w)) := by
  obtain ⟨k0, k1, hb, hs⟩ := W2_facts w
  obtain ⟨l0, _, _, _, l4, l5⟩ := lit_facts
  have h := merg_any (fun k => k < (W2 w).heap.size) (.slice (some ⟨g, 0, none⟩) 3 3) awB (fun i => if i = 0 then none else if i = 1 then some ⟨w.heap.size, 0, none⟩ else some ⟨w.heap.size + 1, 0, none⟩) (fun i => if i = 0 then 0 else 1) awM (W2 w) (fun _ h => h)
    (blobs_lit _ _ _ awB _ _ ((hb.block g hg).trans hbl) (by rw [hs]; omega) l0 (by decide)) (by decide) awB_len
    (fun i hi => by
      have h3 : i = 0 ∨ i = 1 ∨ i = 2 := by omega
      rcases h3 with rfl | rfl | rfl
      · exact ⟨[], rfl, fun _ h => (by cases h), CellsC.nil _ _ _ _ _, fun j e cs h => by cases h⟩
      · exact files_lit _ _ _ (awM 1) _ _ k0 (by rw [hs]; omega) l4 (by decide)
      · exact files_lit _ _ _ (awM 2) _ _ k1 (by rw [hs]; omega) l5 (by decide))
    (fun i _ f hf => (awM_path i f hf).1) (fun i _ f hf => (awM_path i f hf).2) (hE.on hb)
  exact h
end Go.Proofs.YtjlpdoppnhcjoaaDoor
