/- The law ObjectReads. -/
import Derived.Test.YtdolonkeanlaoaaObSg
namespace Go.Proofs.Ytdolonkeanlaoaa
open Go.RowKit
attribute [local simp high] id_size id_zero ent_size ent_zero rent_size rent_zero com_size com_zero rcom_size rcom_zero n32_ne n35_ne n36_ne

set_option maxRecDepth 100000 in
set_option maxHeartbeats 4000000 in
theorem ltrees_any (S S' : Nat → Prop) (v u : Value) (l : List EntN) (w : World) (hv : EntsC S w v l) (hu : EntsC S' w u l) (hl : l.length ≤ 1048576) (hid : ∀ e ∈ l, e.id.length = 32) :
    Calls Try.prog 30 #[v, u] w fun e w' => e = .returned (.bool true) ∧ ∃ n, w' = w.drewN n := by
  obtain ⟨va, vc, rfl⟩ := RowsC.shape hv
  obtain ⟨ua, uc, rfl⟩ := RowsC.shape hu
  have HV := Lib.hid hv
  have HU := Lib.hid hu
  have HID := Lib.hid hid
  obtain ⟨m, hm⟩ : ∃ m, l.length = m := ⟨_, rfl⟩
  have HM := Lib.hid hm
  rw [hm] at hl HV HU ⊢
  clear hv hu hid hm
  go_enter Try.func30, Try.ntmps30
  go_wp2_with fail
  go_loopw [13] (fun i wr => ∃ k : Nat, k ≤ m ∧ i = .int .i64 (k : Int) ∧ Hid (∃ n, wr = w.drewN n)) (fun i _ => m - (intOf i).toNat)
  case atStart => exact ⟨0, Nat.zero_le _, rfl, Lib.hid ⟨0, rfl⟩⟩
  case round =>
    obtain ⟨k, hk, rfl, hW⟩ := hrel
    by_cases hlt : k < m
    · have hwh : wr.heap = w.heap := by obtain ⟨n, hn⟩ := hW.out; rw [hn]; rfl
      obtain ⟨g, o, rfl, _, _, _, ca⟩ := EntsC.at (show EntsC S wr (.slice va l.length vc) l by rw [HM.out]; exact RowsC.kept ent_keeps HV.out (fun q hq => ⟨hq, by rw [hwh]⟩)) (by rw [HM.out]; omega)
      obtain ⟨g2, o2, rfl, _, _, _, cb⟩ := EntsC.at (show EntsC S' wr (.slice ua l.length uc) l by rw [HM.out]; exact RowsC.kept ent_keeps HU.out (fun q hq => ⟨hq, by rw [hwh]⟩)) (by rw [HM.out]; omega)
      replace ca := ca k (by rw [HM.out]; exact hlt)
      replace cb := cb k (by rw [HM.out]; exact hlt)
      have h32 : (l.getD k noEnt).id.length = 32 := HID.out _ (getD_mem (by rw [HM.out]; exact hlt))
      generalize l.getD k noEnt = e at *
      have hl1 : ∀ nq, (loadCellsFrom ⟨g, o + k * n35 + 2, none⟩ 0 n32 #[]).run Try.prog (wr.drewN nq) = .ok (bv e.id).toArray (wr.drewN nq) := fun nq => by
        have := load_row (wr.drewN nq) g (o + k * n35 + 2) n32 (fun j => entF e (2 + j)) (fun j hj => by rw [Nat.add_assoc _ 2 j]; exact ca (2 + j) (by unfold n32 at hj; omega))
        rw [ent_id h32] at this; exact this
      have hl2 : ∀ nq, (loadCellsFrom ⟨g2, o2 + k * n35 + 2, none⟩ 0 n32 #[]).run Try.prog (wr.drewN nq) = .ok (bv e.id).toArray (wr.drewN nq) := fun nq => by
        have := load_row (wr.drewN nq) g2 (o2 + k * n35 + 2) n32 (fun j => entF e (2 + j)) (fun j hj => by rw [Nat.add_assoc _ 2 j]; exact cb (2 + j) (by unfold n32 at hj; omega))
        rw [ent_id h32] at this; exact this
      have a0 : wr.cell? ⟨g, o + k * n35, none⟩ = some (.string ⟨e.name.toArray⟩) := ca 0 (by omega)
      have a1 : wr.cell? ⟨g, o + k * n35 + 1, none⟩ = some (.bool e.folder) := ca 1 (by omega)
      have a34 : wr.cell? ⟨g, o + k * n35 + 34, none⟩ = some (.float .f64 e.stamp) := ca 34 (by omega)
      have b0 : wr.cell? ⟨g2, o2 + k * n35, none⟩ = some (.string ⟨e.name.toArray⟩) := cb 0 (by omega)
      have b1 : wr.cell? ⟨g2, o2 + k * n35 + 1, none⟩ = some (.bool e.folder) := cb 1 (by omega)
      have b34 : wr.cell? ⟨g2, o2 + k * n35 + 34, none⟩ = some (.float .f64 e.stamp) := cb 34 (by omega)
      have hnq : ∀ W, (binOp .neq 27 (.agg (bv e.id).toArray) (.agg (bv e.id).toArray)).run Try.prog W = .ok (.bool false) W := fun W => by have h := id_neq W h32 h32; simpa using h
      have h19 := fb19 e.stamp
      clear ca cb h32 hwh
      obtain ⟨en, ef, ei, es⟩ := e
      simp only at hl1 hl2 a0 a1 a34 b0 b1 b34 hnq h19
      go_upto_region 6 with fail
      go_quiet (fail)
      go_wp2_with fail
      go_roundw
      case rel => exact ⟨k + 1, by omega, by go_num, Lib.hid (by obtain ⟨nw, hnw⟩ := hW.out; rw [hnw]; exact ⟨_, World.drewN_drewN _ _ _⟩)⟩
      case measure => simp [intOf]; omega
    · have hkm : k = m := by omega
      go_wp2_with fail
      go_ret
      exact ⟨rfl, hW.out⟩
def valA {α : Type} (d : α) (r : Except Int α) : α := match r with
  | .ok x => x
  | .error _ => d
theorem FaceR.uni {α : Type} {V : World → Value → α → Prop} {z : Value} {w w' : World} {r : Except Int α} {e : Ending} (d : α) (V' : World → Value → α → Prop) (h : FaceR V z w r e w') (hV : ∀ W v x, V W v x → V' W v x) (hz : ∀ W, V' W z d) : ∃ v, e = .returned (.tuple #[v, .int .i64 (codA r)]) ∧ V' w' v (valA d r) ∧ Below w.heap.size w w' := by
  cases r with
  | error c => exact ⟨z, h.1, hz _, h.2⟩
  | ok x => obtain ⟨v, h1, h2, h3⟩ := h; exact ⟨v, h1, hV _ _ _ h2, h3⟩
/-- What the law holds of its answers: bytes, ids, a blob, entries, a commit. -/
def KByte (W : World) (v : Value) (l : List UInt8) : Prop := BytesC (fun k => k < W.heap.size) W v l
def KIds (W : World) (v : Value) (I : List (List UInt8)) : Prop := IDsC (fun k => k < W.heap.size) W v I
def KBlob (W : World) (v : Value) (x : List (List UInt8) × Nat) : Prop := ∃ a c, v = .agg #[.slice a x.1.length c, .int .i64 x.2] ∧ KIds W (.slice a x.1.length c) x.1
def KEnts (W : World) (v : Value) (l : List EntN) : Prop := EntsC (fun k => k < W.heap.size) W v l
def KCom (W : World) (v : Value) (x : ComN) : Prop := ∃ a c, v = .agg (rowL n36 (comF x.tree a x.parents.length c x.stamp x.author x.note)).toArray ∧ KIds W (.slice a x.parents.length c) x.parents
theorem KByte.on {W W' : World} {v : Value} {l : List UInt8} (h : KByte W v l) (hb : Below W.heap.size W W') : KByte W' v l := BytesC.kept h (fun k hk => ⟨Nat.lt_of_lt_of_le hk hb.size, hb.block k hk⟩)
theorem KIds.on {W W' : World} {v : Value} {l : List (List UInt8)} (h : KIds W v l) (hb : Below W.heap.size W W') : KIds W' v l := IDsC.kept h (fun k hk => ⟨Nat.lt_of_lt_of_le hk hb.size, hb.block k hk⟩)
theorem KEnts.on {W W' : World} {v : Value} {l : List EntN} (h : KEnts W v l) (hb : Below W.heap.size W W') : KEnts W' v l := RowsC.kept ent_keeps h (fun k hk => ⟨Nat.lt_of_lt_of_le hk hb.size, hb.block k hk⟩)
theorem kids_of {w W : World} {v : Value} {I : List (List UInt8)} (h : IdsV w W v I) : KIds W v I := (own_ids h.1 h.2).kept (fun _ hk => ⟨hk.2, rfl⟩)
theorem kids_nil (W : World) : KIds W (.slice none 0 0) [] := Or.inl ⟨rfl, none, 0, rfl⟩
def zCom : ComN := ⟨zeros, [], 0, [], []⟩
theorem blob_len {l : List UInt8} : (valA (([] : List (List UInt8)), 0) (blobR l)).1.length ≤ 1048576 := by
  cases h : blobR l with
  | error c => simp [valA]
  | ok x =>
    obtain ⟨vs, _, h2⟩ := andR_ok h
    unfold blobL at h2
    obtain ⟨ids, e1, h2⟩ := andR_ok h2
    obtain ⟨n, e2, h2⟩ := andR_ok h2
    injection h2 with h2
    subst h2
    have := (namesR_ok e1).2.2.1
    simp only [valA]; omega
theorem tree_all {l : List UInt8} : (valA [] (treeR l)).length ≤ 1048576 ∧ ∀ e ∈ valA [] (treeR l), e.id.length = 32 := by
  cases h : treeR l with
  | error c => exact ⟨by simp [valA], fun e he => by simp [valA] at he⟩
  | ok x =>
    refine ⟨by have := tree_len h; simp only [valA]; omega, fun e he => ?_⟩
    obtain ⟨vs, _, h2⟩ := andR_ok h
    unfold treeL at h2
    obtain ⟨es, e1, h2⟩ := andR_ok h2
    obtain ⟨out, e2, h2⟩ := andR_ok h2
    split at h2
    · cases h2
    injection h2 with h2
    subst h2
    obtain ⟨i, hi, rfl⟩ := List.mem_iff_getElem.1 he
    simp only [valA] at hi ⊢
    have hl := eachR_len e2
    obtain ⟨y, hy1, hy2⟩ := eachR_mem e2 i (es[i]'(by omega)) (List.getElem?_eq_getElem (by omega))
    rw [List.getElem?_eq_getElem hi] at hy1
    injection hy1 with hy1
    rw [hy1]
    exact (entryR_ok hy2).2.2.1
theorem com_all32 {l : List UInt8} : (valA zCom (comR l)).parents.length ≤ 1048576 ∧ (valA zCom (comR l)).tree.length = 32 := by
  cases h : comR l with
  | error c => exact ⟨by simp [valA, zCom], rfl⟩
  | ok x =>
    refine ⟨by have := com_plen h; simp only [valA]; omega, ?_⟩
    obtain ⟨vs, _, h2⟩ := andR_ok h
    unfold comL at h2
    obtain ⟨t, e1, h2⟩ := andR_ok h2
    obtain ⟨ps, _, h2⟩ := andR_ok h2
    split at h2
    · cases h2
    obtain ⟨s, _, h2⟩ := andR_ok h2
    obtain ⟨a, _, h2⟩ := andR_ok h2
    obtain ⟨n, _, h2⟩ := andR_ok h2
    injection h2 with h2
    subst h2
    exact (nameR_ok e1).2.2
theorem links_len {l : List UInt8} : (valA [] (linksR l)).length ≤ 1048576 := by
  cases h : linksR l with
  | error c => simp [valA]
  | ok I =>
    simp only [valA]
    unfold linksR at h
    obtain ⟨k, _, h⟩ := andR_ok h
    split at h
    · obtain ⟨x, _, h⟩ := andR_ok h; injection h with h; rw [← h]; simp
    split at h
    · obtain ⟨x, h1, h⟩ := andR_ok h
      injection h with h
      have := blob_len (l := l)
      rw [h1] at this
      rw [← h]; exact this
    split at h
    · obtain ⟨x, h1, h⟩ := andR_ok h
      injection h with h
      have := tree_len h1
      rw [← h, List.length_map]; omega
    · obtain ⟨x, h1, h⟩ := andR_ok h
      injection h with h
      have := com_plen h1
      rw [← h, List.length_cons]; omega
theorem ids_same (S S' : Nat → Prop) (v u : Value) (I : List (List UInt8)) (w : World) (hv : IDsC S w v I) (hu : IDsC S' w u I) (hl : I.length ≤ 1048576) :
    Calls Try.prog 29 #[v, u] w fun e w' => e = .returned (.bool true) ∧ ∃ n, w' = w.drewN n :=
  (sames_any S S' v u I I w hv hu hl hl).mono fun _ _ ⟨h1, h2⟩ => ⟨by rw [h1, decide_eq_true rfl], h2⟩
theorem byte_k {w W : World} {v : Value} {l : List UInt8} (h : ByteV w W v l) : KByte W v l := by
  exact BytesC.kept h (fun k hk => ⟨hk.2, rfl⟩)
theorem blob_k {w W : World} {v : Value} {x : List (List UInt8) × Nat} (h : BlobV w W v x) : KBlob W v x := by
  obtain ⟨vi, rfl, hI, _⟩ := h
  obtain ⟨a, c, rfl⟩ := row_shape_any hI.1
  exact ⟨a, c, rfl, kids_of hI⟩
theorem com_k {w W : World} {v : Value} {x : ComN} (h : ComV w W v x) : KCom W v x := by
  obtain ⟨a, c, rfl, hI, _, _⟩ := h
  exact ⟨a, c, rfl, kids_of hI⟩
theorem ents_nil (W : World) : KEnts W (.slice none 0 0) [] := ⟨[], rfl, fun _ h => (by cases h), CellsC.nil _ _ _ _ _, fun j e cs h _ => by simp at h⟩
set_option maxRecDepth 100000 in
set_option maxHeartbeats 8000000 in
theorem reads_law (v : Value) (l : List UInt8) (w : World) (hb : BytesC (fun k => k < w.heap.size) w v l) (hl : l.length ≤ 1048576) :
    Calls Try.prog 4 #[v] w fun e w' => e = .returned (.bool true) ∧ Below w.heap.size w w' := by
  have hst := run_storeF
  obtain ⟨sa, sc, rfl⟩ := hb.shape
  obtain ⟨sn, hsn⟩ : ∃ n, l.length = n := ⟨_, rfl⟩
  rw [hsn] at hb ⊢
  have hl48 : l.length ≤ 281474976710656 := by omega
  have hlt : ∀ W, Below w.heap.size w W → ∀ k, k < w.heap.size → k < W.heap.size := fun W hW k hk => Nat.lt_of_lt_of_le hk hW.size
  have hbc : ∀ W, Below w.heap.size w W → BytesC (fun k => k < w.heap.size) W (.slice sa sn sc) l := fun W hW => hb.kept (fun k hk => ⟨hk, hW.block k hk⟩)
  have HPC : Hid (∀ W, Below w.heap.size w W → Calls Try.prog 17 #[.slice sa sn sc] W fun e w' => ∃ u, e = .returned (.tuple #[u, .int .i64 (codA (chunkR l))]) ∧ KByte w' u (valA [] (chunkR l)) ∧ Below W.heap.size W w') := Lib.hid (fun W hW => (gchunk_any (fun k => k < w.heap.size) _ l W (hlt W hW) (hbc W hW)).mono fun _ _ h => FaceR.uni [] KByte h (fun W v x h => byte_k h) (fun _ => Or.inl ⟨rfl, rfl⟩))
  have HDC : Hid (∀ W, Calls Try.prog 18 #[.string ⟨l.toArray⟩] W fun e w' => ∃ u, e = .returned (.tuple #[u, .int .i64 (codA (chunkR l))]) ∧ (fun (_ : World) v (b : List UInt8) => v = .string ⟨b.toArray⟩) w' u (valA [] (chunkR l)) ∧ Below W.heap.size W w') := Lib.hid (fun W => (dgchunk_any l W hl48).mono fun _ _ h => FaceR.uni [] (fun (_ : World) v (b : List UInt8) => v = .string ⟨b.toArray⟩) h (fun W v x h => h) (fun _ => rfl))
  have HPB : Hid (∀ W, Below w.heap.size w W → Calls Try.prog 19 #[.slice sa sn sc] W fun e w' => ∃ u, e = .returned (.tuple #[u, .int .i64 (codA (blobR l))]) ∧ KBlob w' u (valA (([] : List (List UInt8)), 0) (blobR l)) ∧ Below W.heap.size W w') := Lib.hid (fun W hW => (gblob_any (fun k => k < w.heap.size) _ l W (hlt W hW) (hbc W hW)).mono fun _ _ h => FaceR.uni (([] : List (List UInt8)), 0) KBlob h (fun W v x h => blob_k h) (fun W => ⟨none, 0, rfl, kids_nil W⟩))
  have HDB : Hid (∀ W, Calls Try.prog 20 #[.string ⟨l.toArray⟩] W fun e w' => ∃ u, e = .returned (.tuple #[u, .int .i64 (codA (blobR l))]) ∧ KBlob w' u (valA (([] : List (List UInt8)), 0) (blobR l)) ∧ Below W.heap.size W w') := Lib.hid (fun W => (dgblob_any l W hl48).mono fun _ _ h => FaceR.uni (([] : List (List UInt8)), 0) KBlob h (fun W v x h => blob_k h) (fun W => ⟨none, 0, rfl, kids_nil W⟩))
  have HPT : Hid (∀ W, Below w.heap.size w W → Calls Try.prog 21 #[.slice sa sn sc] W fun e w' => ∃ u, e = .returned (.tuple #[u, .int .i64 (codA (treeR l))]) ∧ KEnts w' u (valA [] (treeR l)) ∧ Below W.heap.size W w') := Lib.hid (fun W hW => (gtree_any (fun k => k < w.heap.size) _ l W (hlt W hW) (hbc W hW)).mono fun _ _ h => FaceR.uni [] KEnts h (fun W v x h => RowsC.kept ent_keeps (own_ents h.1) (fun k hk => ⟨hk.2, rfl⟩)) (fun W => ents_nil W))
  have HDT : Hid (∀ W, Calls Try.prog 22 #[.string ⟨l.toArray⟩] W fun e w' => ∃ u, e = .returned (.tuple #[u, .int .i64 (codA (treeR l))]) ∧ KEnts w' u (valA [] (treeR l)) ∧ Below W.heap.size W w') := Lib.hid (fun W => (dgtree_any l W hl48).mono fun _ _ h => FaceR.uni [] KEnts h (fun W v x h => RowsC.kept ent_keeps (rown_ents h.1) (fun k hk => ⟨hk.2, rfl⟩)) (fun W => ents_nil W))
  have HPM : Hid (∀ W, Below w.heap.size w W → Calls Try.prog 23 #[.slice sa sn sc] W fun e w' => ∃ u, e = .returned (.tuple #[u, .int .i64 (codA (comR l))]) ∧ KCom w' u (valA zCom (comR l)) ∧ Below W.heap.size W w') := Lib.hid (fun W hW => (gcom_any (fun k => k < w.heap.size) _ l W (hlt W hW) (hbc W hW)).mono fun _ _ h => FaceR.uni zCom KCom h (fun W v x h => com_k h) (fun W => ⟨none, 0, rfl, kids_nil W⟩))
  have HDM : Hid (∀ W, Calls Try.prog 24 #[.string ⟨l.toArray⟩] W fun e w' => ∃ u, e = .returned (.tuple #[u, .int .i64 (codA (comR l))]) ∧ KCom w' u (valA zCom (comR l)) ∧ Below W.heap.size W w') := Lib.hid (fun W => (dgcom_any l W hl48).mono fun _ _ h => FaceR.uni zCom KCom h (fun W v x h => com_k h) (fun W => ⟨none, 0, rfl, kids_nil W⟩))
  have HPK : Hid (∀ W, Below w.heap.size w W → Calls Try.prog 25 #[.slice sa sn sc] W fun e w' => ∃ u, e = .returned (.tuple #[u, .int .i64 (codA (kindR l))]) ∧ (fun (_ : World) v (k : Nat) => v = .int .i64 k) w' u (valA 0 (kindR l)) ∧ Below W.heap.size W w') := Lib.hid (fun W hW => (kind_any (fun k => k < w.heap.size) _ l W (hlt W hW) (hbc W hW)).mono fun _ _ h => FaceR.uni 0 (fun (_ : World) v (k : Nat) => v = .int .i64 k) h (fun W v x h => h) (fun _ => rfl))
  have HDK : Hid (∀ W, Calls Try.prog 26 #[.string ⟨l.toArray⟩] W fun e w' => ∃ u, e = .returned (.tuple #[u, .int .i64 (codA (kindR l))]) ∧ (fun (_ : World) v (k : Nat) => v = .int .i64 k) w' u (valA 0 (kindR l)) ∧ Below W.heap.size W w') := Lib.hid (fun W => (dkind_any l W hl48).mono fun _ _ h => FaceR.uni 0 (fun (_ : World) v (k : Nat) => v = .int .i64 k) h (fun W v x h => h) (fun _ => rfl))
  have HPL : Hid (∀ W, Below w.heap.size w W → Calls Try.prog 27 #[.slice sa sn sc] W fun e w' => ∃ u, e = .returned (.tuple #[u, .int .i64 (codA (linksR l))]) ∧ KIds w' u (valA [] (linksR l)) ∧ Below W.heap.size W w') := Lib.hid (fun W hW => (links_any (fun k => k < w.heap.size) _ l W (hlt W hW) (hbc W hW)).mono fun _ _ h => FaceR.uni [] KIds h (fun W v x h => kids_of h) (fun W => kids_nil W))
  have HDL : Hid (∀ W, Calls Try.prog 28 #[.string ⟨l.toArray⟩] W fun e w' => ∃ u, e = .returned (.tuple #[u, .int .i64 (codA (linksR l))]) ∧ KIds w' u (valA [] (linksR l)) ∧ Below W.heap.size W w') := Lib.hid (fun W => (dlinks_any l W hl48).mono fun _ _ h => FaceR.uni [] KIds h (fun W v x h => kids_of h) (fun W => kids_nil W))
  have HBC := Lib.hid hbc
  have HL1 := Lib.hid (blob_len (l := l))
  have HL2 := Lib.hid (tree_all (l := l))
  have HL3 := Lib.hid (com_all32 (l := l))
  have HL4 := Lib.hid (links_len (l := l))
  clear hb hlt hbc hsn hl48 hl
  generalize codA (chunkR l) = c1 at *
  generalize valA [] (chunkR l) = o1 at *
  generalize codA (blobR l) = c2 at *
  generalize valA (([] : List (List UInt8)), 0) (blobR l) = bx at *
  generalize codA (treeR l) = c3 at *
  generalize valA [] (treeR l) = tx at *
  generalize codA (comR l) = c4 at *
  generalize valA zCom (comR l) = cx at *
  generalize codA (kindR l) = c5 at *
  generalize valA 0 (kindR l) = kx at *
  generalize codA (linksR l) = c6 at *
  generalize valA [] (linksR l) = lx at *
  obtain ⟨bl, hbl⟩ : ∃ n, bx.1.length = n := ⟨_, rfl⟩
  obtain ⟨tl, htl⟩ : ∃ n, tx.length = n := ⟨_, rfl⟩
  obtain ⟨ml, hml⟩ : ∃ n, cx.parents.length = n := ⟨_, rfl⟩
  obtain ⟨ll, hll⟩ : ∃ n, lx.length = n := ⟨_, rfl⟩
  have HML := Lib.hid hml
  go_enter Try.func4, Try.ntmps4
  go_wp2_with fail
  refine (aw_try w).mono ?_
  rintro e w1 ⟨rfl, hb1⟩
  have HB := Lib.hid hb1
  have hcv := bytes_str (HBC.out w1 hb1)
  clear hb1
  go_wp2_with fail
  refine (HPC.out w1 HB.out).mono ?_
  rintro e w2 ⟨u, rfl, kc, hb⟩
  have hb := Lib.hid hb
  have HB : Hid (Below w.heap.size w w2) := Lib.hid (HB.out.trans (hb.out.mono HB.out.size))
  have KC := Lib.hid kc
  obtain ⟨ca, cc, rfl⟩ := BytesC.shape kc
  clear kc
  clear hb
  go_wp2_with fail
  refine (HDC.out w2).mono ?_
  rintro e w3 ⟨u, rfl, rfl, hb⟩
  have hb := Lib.hid hb
  have KC := Lib.hid (KC.out.on hb.out)
  have HB : Hid (Below w.heap.size w w3) := Lib.hid (HB.out.trans (hb.out.mono HB.out.size))
  clear hb
  go_wp2_with fail
  refine (HPB.out w3 HB.out).mono ?_
  rintro e w4 ⟨u, rfl, kb, hb⟩
  have hb := Lib.hid hb
  have KC := Lib.hid (KC.out.on hb.out)
  have HB : Hid (Below w.heap.size w w4) := Lib.hid (HB.out.trans (hb.out.mono HB.out.size))
  obtain ⟨ba, bc, rfl, kb⟩ := kb
  have KB := Lib.hid kb
  rw [hbl] at KB ⊢
  clear kb
  clear hb
  have hb : Hid (Below w4.heap.size w4 (w4.alloc (.cells #[.slice ba bl bc, .int .i64 (bx.2 : Nat)] 24))) := Lib.hid ((Below.refl _ _).alloc (Nat.le_refl _) _)
  have BX : Hid ((w4.alloc (.cells #[.slice ba bl bc, .int .i64 (bx.2 : Nat)] 24)).heap[w4.heap.size]? = some (.cells #[.slice ba bl bc, .int .i64 (bx.2 : Nat)] 24 (0, 0))) := Lib.hid (new_five w4 _ _)
  have HLT : Hid (w4.heap.size < (w4.alloc (.cells #[.slice ba bl bc, .int .i64 (bx.2 : Nat)] 24)).heap.size) := Lib.hid (by simp)
  have KC := Lib.hid (KC.out.on hb.out)
  have KB := Lib.hid (KB.out.on hb.out)
  have HB := Lib.hid (HB.out.trans (hb.out.mono HB.out.size))
  go_upto_region 7 with fail
  generalize w4.alloc (.cells #[.slice ba bl bc, .int .i64 (bx.2 : Nat)] 24) = w5 at *
  obtain ⟨BXb, hBXb⟩ : ∃ q, w4.heap.size = q := ⟨_, rfl⟩
  rw [hBXb] at BX HLT ⊢
  clear hBXb hb
  have BXl := HLT
  clear HLT
  go_wp2_with fail
  refine (HDB.out w5).mono ?_
  rintro e w6 ⟨u, rfl, kb, hb⟩
  have hb := Lib.hid hb
  have KC := Lib.hid (KC.out.on hb.out)
  have KB := Lib.hid (KB.out.on hb.out)
  have BX := Lib.hid ((hb.out.block _ BXl.out).trans BX.out)
  have BXl := Lib.hid (Nat.lt_of_lt_of_le BXl.out hb.out.size)
  have HB : Hid (Below w.heap.size w w6) := Lib.hid (HB.out.trans (hb.out.mono HB.out.size))
  obtain ⟨da, dc, rfl, kb⟩ := kb
  have KD := Lib.hid kb
  rw [hbl] at KD ⊢
  clear kb
  clear hb
  have hb : Hid (Below w6.heap.size w6 (w6.alloc (.cells #[.slice da bl dc, .int .i64 (bx.2 : Nat)] 38))) := Lib.hid ((Below.refl _ _).alloc (Nat.le_refl _) _)
  have BY : Hid ((w6.alloc (.cells #[.slice da bl dc, .int .i64 (bx.2 : Nat)] 38)).heap[w6.heap.size]? = some (.cells #[.slice da bl dc, .int .i64 (bx.2 : Nat)] 38 (0, 0))) := Lib.hid (new_five w6 _ _)
  have HLT : Hid (w6.heap.size < (w6.alloc (.cells #[.slice da bl dc, .int .i64 (bx.2 : Nat)] 38)).heap.size) := Lib.hid (by simp)
  have KC := Lib.hid (KC.out.on hb.out)
  have KB := Lib.hid (KB.out.on hb.out)
  have BX := Lib.hid ((hb.out.block _ BXl.out).trans BX.out)
  have BXl := Lib.hid (Nat.lt_of_lt_of_le BXl.out hb.out.size)
  have KD := Lib.hid (KD.out.on hb.out)
  have HB := Lib.hid (HB.out.trans (hb.out.mono HB.out.size))
  go_upto_region 8 with fail
  generalize w6.alloc (.cells #[.slice da bl dc, .int .i64 (bx.2 : Nat)] 38) = w7 at *
  obtain ⟨BYb, hBYb⟩ : ∃ q, w6.heap.size = q := ⟨_, rfl⟩
  rw [hBYb] at BY HLT ⊢
  clear hBYb hb
  have BYl := HLT
  clear HLT
  go_wp2_with fail
  refine (HPT.out w7 HB.out).mono ?_
  rintro e w8 ⟨u, rfl, kt, hb⟩
  have hb := Lib.hid hb
  have KC := Lib.hid (KC.out.on hb.out)
  have KB := Lib.hid (KB.out.on hb.out)
  have BX := Lib.hid ((hb.out.block _ BXl.out).trans BX.out)
  have BXl := Lib.hid (Nat.lt_of_lt_of_le BXl.out hb.out.size)
  have KD := Lib.hid (KD.out.on hb.out)
  have BY := Lib.hid ((hb.out.block _ BYl.out).trans BY.out)
  have BYl := Lib.hid (Nat.lt_of_lt_of_le BYl.out hb.out.size)
  have HB : Hid (Below w.heap.size w w8) := Lib.hid (HB.out.trans (hb.out.mono HB.out.size))
  have KT := Lib.hid kt
  obtain ⟨ta, tc, rfl⟩ := RowsC.shape kt
  rw [htl] at KT ⊢
  clear kt
  clear hb
  go_wp2_with fail
  refine (HDT.out w8).mono ?_
  rintro e w9 ⟨u, rfl, kt, hb⟩
  have hb := Lib.hid hb
  have KC := Lib.hid (KC.out.on hb.out)
  have KB := Lib.hid (KB.out.on hb.out)
  have BX := Lib.hid ((hb.out.block _ BXl.out).trans BX.out)
  have BXl := Lib.hid (Nat.lt_of_lt_of_le BXl.out hb.out.size)
  have KD := Lib.hid (KD.out.on hb.out)
  have BY := Lib.hid ((hb.out.block _ BYl.out).trans BY.out)
  have BYl := Lib.hid (Nat.lt_of_lt_of_le BYl.out hb.out.size)
  have KT := Lib.hid (KT.out.on hb.out)
  have HB : Hid (Below w.heap.size w w9) := Lib.hid (HB.out.trans (hb.out.mono HB.out.size))
  have KU := Lib.hid kt
  obtain ⟨ua, uc, rfl⟩ := RowsC.shape kt
  rw [htl] at KU ⊢
  clear kt
  clear hb
  go_wp2_with fail
  refine (HPM.out w9 HB.out).mono ?_
  rintro e w10 ⟨u, rfl, km, hb⟩
  have hb := Lib.hid hb
  have KC := Lib.hid (KC.out.on hb.out)
  have KB := Lib.hid (KB.out.on hb.out)
  have BX := Lib.hid ((hb.out.block _ BXl.out).trans BX.out)
  have BXl := Lib.hid (Nat.lt_of_lt_of_le BXl.out hb.out.size)
  have KD := Lib.hid (KD.out.on hb.out)
  have BY := Lib.hid ((hb.out.block _ BYl.out).trans BY.out)
  have BYl := Lib.hid (Nat.lt_of_lt_of_le BYl.out hb.out.size)
  have KT := Lib.hid (KT.out.on hb.out)
  have KU := Lib.hid (KU.out.on hb.out)
  have HB : Hid (Below w.heap.size w w10) := Lib.hid (HB.out.trans (hb.out.mono HB.out.size))
  obtain ⟨ma, mc, rfl, km⟩ := km
  have KM := Lib.hid km
  rw [hml] at KM ⊢
  clear km
  obtain ⟨G1, hG1⟩ : ∃ G : Nat → Value, G = comF cx.tree ma ml mc cx.stamp cx.author cx.note := ⟨_, rfl⟩
  have hG : OneC n36 G1 := by rw [hG1]; exact com_one _ _ _ _ _ _ _ _
  rw [← hG1]
  have HG1 := Lib.hid hG1
  have HO1 := Lib.hid hG
  clear hG1 hG
  have hG1 := HO1.out
  clear hb
  have r0 := RF.new w10 30 n36 comZ
  have st0 := r0.write hG1
  have hol := rowL_len n36 G1
  have holz := rowL_len n36 comZ
  have hb : Hid (Below w10.heap.size w10 ((w10.alloc (.cells (rowL n36 comZ).toArray 30)).setRow w10.heap.size (rowL n36 G1).toArray)) := Lib.hid (below_setRow ((Below.refl _ _).alloc (Nat.le_refl _) _) (Nat.le_refl _) _)
  have MX : Hid (RF ((w10.alloc (.cells (rowL n36 comZ).toArray 30)).setRow w10.heap.size (rowL n36 G1).toArray) w10.heap.size 30 n36 G1) := Lib.hid (r0.put G1)
  have KC := Lib.hid (KC.out.on hb.out)
  have KB := Lib.hid (KB.out.on hb.out)
  have BX := Lib.hid ((hb.out.block _ BXl.out).trans BX.out)
  have BXl := Lib.hid (Nat.lt_of_lt_of_le BXl.out hb.out.size)
  have KD := Lib.hid (KD.out.on hb.out)
  have BY := Lib.hid ((hb.out.block _ BYl.out).trans BY.out)
  have BYl := Lib.hid (Nat.lt_of_lt_of_le BYl.out hb.out.size)
  have KT := Lib.hid (KT.out.on hb.out)
  have KU := Lib.hid (KU.out.on hb.out)
  have KM := Lib.hid (KM.out.on hb.out)
  have HB := Lib.hid (HB.out.trans (hb.out.mono HB.out.size))
  clear r0
  go_upto_region 11 with fail
  clear st0 hol holz
  generalize (w10.alloc (.cells (rowL n36 comZ).toArray 30)).setRow w10.heap.size (rowL n36 G1).toArray = w11 at *
  obtain ⟨MXb, hMXb⟩ : ∃ q, w10.heap.size = q := ⟨_, rfl⟩
  rw [hMXb] at MX ⊢
  clear hMXb hb
  clear hG1
  go_wp2_with fail
  refine (HDM.out w11).mono ?_
  rintro e w12 ⟨u, rfl, km, hb⟩
  have hb := Lib.hid hb
  have KC := Lib.hid (KC.out.on hb.out)
  have KB := Lib.hid (KB.out.on hb.out)
  have BX := Lib.hid ((hb.out.block _ BXl.out).trans BX.out)
  have BXl := Lib.hid (Nat.lt_of_lt_of_le BXl.out hb.out.size)
  have KD := Lib.hid (KD.out.on hb.out)
  have BY := Lib.hid ((hb.out.block _ BYl.out).trans BY.out)
  have BYl := Lib.hid (Nat.lt_of_lt_of_le BYl.out hb.out.size)
  have KT := Lib.hid (KT.out.on hb.out)
  have KU := Lib.hid (KU.out.on hb.out)
  have KM := Lib.hid (KM.out.on hb.out)
  have MX := Lib.hid (MX.out.kept (hb.out.block _ MX.out.lt))
  have HB : Hid (Below w.heap.size w w12) := Lib.hid (HB.out.trans (hb.out.mono HB.out.size))
  obtain ⟨na, nc, rfl, km⟩ := km
  have KN := Lib.hid km
  rw [hml] at KN ⊢
  clear km
  obtain ⟨G2, hG2⟩ : ∃ G : Nat → Value, G = comF cx.tree na ml nc cx.stamp cx.author cx.note := ⟨_, rfl⟩
  have hG : OneC n36 G2 := by rw [hG2]; exact com_one _ _ _ _ _ _ _ _
  rw [← hG2]
  have HG2 := Lib.hid hG2
  have HO2 := Lib.hid hG
  clear hG2 hG
  have hG2 := HO2.out
  clear hb
  have r0 := RF.new w12 46 n36 comZ
  have st0 := r0.write hG2
  have hol := rowL_len n36 G2
  have holz := rowL_len n36 comZ
  have hb : Hid (Below w12.heap.size w12 ((w12.alloc (.cells (rowL n36 comZ).toArray 46)).setRow w12.heap.size (rowL n36 G2).toArray)) := Lib.hid (below_setRow ((Below.refl _ _).alloc (Nat.le_refl _) _) (Nat.le_refl _) _)
  have MY : Hid (RF ((w12.alloc (.cells (rowL n36 comZ).toArray 46)).setRow w12.heap.size (rowL n36 G2).toArray) w12.heap.size 46 n36 G2) := Lib.hid (r0.put G2)
  have KC := Lib.hid (KC.out.on hb.out)
  have KB := Lib.hid (KB.out.on hb.out)
  have BX := Lib.hid ((hb.out.block _ BXl.out).trans BX.out)
  have BXl := Lib.hid (Nat.lt_of_lt_of_le BXl.out hb.out.size)
  have KD := Lib.hid (KD.out.on hb.out)
  have BY := Lib.hid ((hb.out.block _ BYl.out).trans BY.out)
  have BYl := Lib.hid (Nat.lt_of_lt_of_le BYl.out hb.out.size)
  have KT := Lib.hid (KT.out.on hb.out)
  have KU := Lib.hid (KU.out.on hb.out)
  have KM := Lib.hid (KM.out.on hb.out)
  have MX := Lib.hid (MX.out.kept (hb.out.block _ MX.out.lt))
  have KN := Lib.hid (KN.out.on hb.out)
  have HB := Lib.hid (HB.out.trans (hb.out.mono HB.out.size))
  clear r0
  go_upto_region 12 with fail
  clear st0 hol holz
  generalize (w12.alloc (.cells (rowL n36 comZ).toArray 46)).setRow w12.heap.size (rowL n36 G2).toArray = w13 at *
  obtain ⟨MYb, hMYb⟩ : ∃ q, w12.heap.size = q := ⟨_, rfl⟩
  rw [hMYb] at MY ⊢
  clear hMYb hb
  clear hG2
  go_wp2_with fail
  refine (HPK.out w13 HB.out).mono ?_
  rintro e w14 ⟨u, rfl, rfl, hb⟩
  have hb := Lib.hid hb
  have KC := Lib.hid (KC.out.on hb.out)
  have KB := Lib.hid (KB.out.on hb.out)
  have BX := Lib.hid ((hb.out.block _ BXl.out).trans BX.out)
  have BXl := Lib.hid (Nat.lt_of_lt_of_le BXl.out hb.out.size)
  have KD := Lib.hid (KD.out.on hb.out)
  have BY := Lib.hid ((hb.out.block _ BYl.out).trans BY.out)
  have BYl := Lib.hid (Nat.lt_of_lt_of_le BYl.out hb.out.size)
  have KT := Lib.hid (KT.out.on hb.out)
  have KU := Lib.hid (KU.out.on hb.out)
  have KM := Lib.hid (KM.out.on hb.out)
  have MX := Lib.hid (MX.out.kept (hb.out.block _ MX.out.lt))
  have KN := Lib.hid (KN.out.on hb.out)
  have MY := Lib.hid (MY.out.kept (hb.out.block _ MY.out.lt))
  have HB : Hid (Below w.heap.size w w14) := Lib.hid (HB.out.trans (hb.out.mono HB.out.size))
  clear hb
  go_wp2_with fail
  refine (HDK.out w14).mono ?_
  rintro e w15 ⟨u, rfl, rfl, hb⟩
  have hb := Lib.hid hb
  have KC := Lib.hid (KC.out.on hb.out)
  have KB := Lib.hid (KB.out.on hb.out)
  have BX := Lib.hid ((hb.out.block _ BXl.out).trans BX.out)
  have BXl := Lib.hid (Nat.lt_of_lt_of_le BXl.out hb.out.size)
  have KD := Lib.hid (KD.out.on hb.out)
  have BY := Lib.hid ((hb.out.block _ BYl.out).trans BY.out)
  have BYl := Lib.hid (Nat.lt_of_lt_of_le BYl.out hb.out.size)
  have KT := Lib.hid (KT.out.on hb.out)
  have KU := Lib.hid (KU.out.on hb.out)
  have KM := Lib.hid (KM.out.on hb.out)
  have MX := Lib.hid (MX.out.kept (hb.out.block _ MX.out.lt))
  have KN := Lib.hid (KN.out.on hb.out)
  have MY := Lib.hid (MY.out.kept (hb.out.block _ MY.out.lt))
  have HB : Hid (Below w.heap.size w w15) := Lib.hid (HB.out.trans (hb.out.mono HB.out.size))
  clear hb
  go_wp2_with fail
  refine (HPL.out w15 HB.out).mono ?_
  rintro e w16 ⟨u, rfl, kl, hb⟩
  have hb := Lib.hid hb
  have KC := Lib.hid (KC.out.on hb.out)
  have KB := Lib.hid (KB.out.on hb.out)
  have BX := Lib.hid ((hb.out.block _ BXl.out).trans BX.out)
  have BXl := Lib.hid (Nat.lt_of_lt_of_le BXl.out hb.out.size)
  have KD := Lib.hid (KD.out.on hb.out)
  have BY := Lib.hid ((hb.out.block _ BYl.out).trans BY.out)
  have BYl := Lib.hid (Nat.lt_of_lt_of_le BYl.out hb.out.size)
  have KT := Lib.hid (KT.out.on hb.out)
  have KU := Lib.hid (KU.out.on hb.out)
  have KM := Lib.hid (KM.out.on hb.out)
  have MX := Lib.hid (MX.out.kept (hb.out.block _ MX.out.lt))
  have KN := Lib.hid (KN.out.on hb.out)
  have MY := Lib.hid (MY.out.kept (hb.out.block _ MY.out.lt))
  have HB : Hid (Below w.heap.size w w16) := Lib.hid (HB.out.trans (hb.out.mono HB.out.size))
  have KL := Lib.hid kl
  obtain ⟨la, lc, rfl⟩ := IDsC.shape kl
  rw [hll] at KL ⊢
  clear kl
  clear hb
  go_wp2_with fail
  refine (HDL.out w16).mono ?_
  rintro e w17 ⟨u, rfl, kl, hb⟩
  have hb := Lib.hid hb
  have KC := Lib.hid (KC.out.on hb.out)
  have KB := Lib.hid (KB.out.on hb.out)
  have BX := Lib.hid ((hb.out.block _ BXl.out).trans BX.out)
  have BXl := Lib.hid (Nat.lt_of_lt_of_le BXl.out hb.out.size)
  have KD := Lib.hid (KD.out.on hb.out)
  have BY := Lib.hid ((hb.out.block _ BYl.out).trans BY.out)
  have BYl := Lib.hid (Nat.lt_of_lt_of_le BYl.out hb.out.size)
  have KT := Lib.hid (KT.out.on hb.out)
  have KU := Lib.hid (KU.out.on hb.out)
  have KM := Lib.hid (KM.out.on hb.out)
  have MX := Lib.hid (MX.out.kept (hb.out.block _ MX.out.lt))
  have KN := Lib.hid (KN.out.on hb.out)
  have MY := Lib.hid (MY.out.kept (hb.out.block _ MY.out.lt))
  have KL := Lib.hid (KL.out.on hb.out)
  have HB : Hid (Below w.heap.size w w17) := Lib.hid (HB.out.trans (hb.out.mono HB.out.size))
  have KO := Lib.hid kl
  obtain ⟨oa, oc, rfl⟩ := IDsC.shape kl
  rw [hll] at KO ⊢
  clear kl
  clear hb
  obtain ⟨S0, hS0⟩ : ∃ S0 : World → Prop, S0 = (fun W => Below w.heap.size w W ∧ KByte W (.slice ca o1.length cc) o1 ∧ KIds W (.slice ba bl bc) bx.1 ∧ KIds W (.slice da bl dc) bx.1 ∧ W.heap[BXb]? = some (.cells #[.slice ba bl bc, .int .i64 (bx.2 : Nat)] 24 (0, 0)) ∧ W.heap[BYb]? = some (.cells #[.slice da bl dc, .int .i64 (bx.2 : Nat)] 38 (0, 0)) ∧ KEnts W (.slice ta tl tc) tx ∧ KEnts W (.slice ua tl uc) tx ∧ KIds W (.slice ma ml mc) cx.parents ∧ KIds W (.slice na ml nc) cx.parents ∧ RF W MXb 30 n36 G1 ∧ RF W MYb 46 n36 G2 ∧ KIds W (.slice la ll lc) lx ∧ KIds W (.slice oa ll oc) lx) := ⟨_, rfl⟩
  have HS0 : Hid (∀ W, S0 W ↔ Below w.heap.size w W ∧ KByte W (.slice ca o1.length cc) o1 ∧ KIds W (.slice ba bl bc) bx.1 ∧ KIds W (.slice da bl dc) bx.1 ∧ W.heap[BXb]? = some (.cells #[.slice ba bl bc, .int .i64 (bx.2 : Nat)] 24 (0, 0)) ∧ W.heap[BYb]? = some (.cells #[.slice da bl dc, .int .i64 (bx.2 : Nat)] 38 (0, 0)) ∧ KEnts W (.slice ta tl tc) tx ∧ KEnts W (.slice ua tl uc) tx ∧ KIds W (.slice ma ml mc) cx.parents ∧ KIds W (.slice na ml nc) cx.parents ∧ RF W MXb 30 n36 G1 ∧ RF W MYb 46 n36 G2 ∧ KIds W (.slice la ll lc) lx ∧ KIds W (.slice oa ll oc) lx) := Lib.hid (fun W => by rw [hS0])
  clear hS0
  have HST : Hid (∀ W W', S0 W → Below W.heap.size W W' → S0 W') := Lib.hid (fun W W' h hb => by
    obtain ⟨q0, q1, q2, q3, q4, q5, q6, q7, q8, q9, qa, qb, qc, qd⟩ := (HS0.out W).1 h
    exact (HS0.out W').2 ⟨q0.trans (hb.mono q0.size), q1.on hb, q2.on hb, q3.on hb, (hb.block _ (Array.getElem?_eq_some_iff.1 q4).1).trans q4, (hb.block _ (Array.getElem?_eq_some_iff.1 q5).1).trans q5, q6.on hb, q7.on hb, q8.on hb, q9.on hb, qa.kept (hb.block _ qa.lt), qb.kept (hb.block _ qb.lt), qc.on hb, qd.on hb⟩)
  have HSc : Hid (S0 w17) := Lib.hid ((HS0.out w17).2 ⟨HB.out, KC.out, KB.out, KD.out, BX.out, BY.out, KT.out, KU.out, KM.out, KN.out, MX.out, MY.out, KL.out, KO.out⟩)
  have HQ21 : Hid (∀ W, S0 W → Calls Try.prog 29 #[.slice ba bl bc, .slice da bl dc] W fun e w' => e = .returned (.bool true) ∧ ∃ n, w' = W.drewN n) := Lib.hid (fun W h => by
    obtain ⟨-, -, q2, q3, -⟩ := (HS0.out W).1 h
    exact ids_same _ _ _ _ bx.1 W q2 q3 HL1.out)
  have HQ30 : Hid (∀ W, S0 W → Calls Try.prog 13 #[.slice ta tl tc] W fun e w' => ∃ v', e = .returned v' ∧ EntsC (NewS W w') w' v' tx ∧ Below W.heap.size W w') := Lib.hid (fun W h => by
    obtain ⟨-, -, -, -, -, -, q6, -⟩ := (HS0.out W).1 h
    exact ltree_any (fun k => k < W.heap.size) _ tx W (fun k hk => hk) q6 HL2.out.1 HL2.out.2)
  have HQ32 : Hid (∀ (S : Nat → Prop) (v : Value) W, S0 W → EntsC S W v tx → Calls Try.prog 30 #[v, .slice ua tl uc] W fun e w' => e = .returned (.bool true) ∧ ∃ n, w' = W.drewN n) := Lib.hid (fun S v W h hv => by
    obtain ⟨-, -, -, -, -, -, -, q7, -⟩ := (HS0.out W).1 h
    exact ltrees_any _ _ _ _ tx W hv q7 HL2.out.1 HL2.out.2)
  have HQ41 : Hid (∀ W, Calls Try.prog 16 #[.agg (rowL n36 G1).toArray] W fun e w' => e = .returned (.agg (rowL n36 G1).toArray) ∧ Below W.heap.size W w') := Lib.hid (fun W => by
    rw [HG1.out]; exact lcommit_any cx.tree ma ml mc cx.stamp cx.author cx.note W HL3.out.2)
  have HQ43 : Hid (∀ W, S0 W → Calls Try.prog 31 #[.agg (rowL n36 G1).toArray, .agg (rowL n36 G2).toArray] W fun e w' => e = .returned (.bool true) ∧ Below W.heap.size W w') := Lib.hid (fun W h => by
    obtain ⟨-, -, -, -, -, -, -, -, q8, q9, -⟩ := (HS0.out W).1 h
    rw [HG1.out, HG2.out]
    exact lcommits_any (fun k => k < W.heap.size) (fun k => k < W.heap.size) cx.tree cx.parents ma na ml mc nc cx.stamp cx.author cx.note W HL3.out.2 (fun k hk => hk) (fun k hk => hk) HML.out (by rw [← HML.out]; exact HL3.out.1) q8 q9)
  have HQ63 : Hid (∀ W, S0 W → Calls Try.prog 29 #[.slice la ll lc, .slice oa ll oc] W fun e w' => e = .returned (.bool true) ∧ ∃ n, w' = W.drewN n) := Lib.hid (fun W h => by
    obtain ⟨-, -, -, -, -, -, -, -, -, -, -, -, qc, qd⟩ := (HS0.out W).1 h
    exact ids_same _ _ _ _ lx W qc qd HL4.out)
  have HFIN : Hid (∀ W, S0 W → Below w.heap.size w W) := Lib.hid (fun W h => ((HS0.out W).1 h).1)
  have hol1 := rowL_len n36 G1
  have hol2 := rowL_len n36 G2
  go_upto_region 16 with fail
  refine wp_region_D 70 S0 (by kernel_rfl) (by kernel_rfl) (by kernel_rfl) ?_
  have HSc : Hid (S0 w17.drew) := Lib.hid (HST.out _ _ HSc.out (below_drewN _ w17 1))
  have hSd := HSc.out
  refine wpAnyD_take (i := 0) (oi := ⟨_, _, _, _, _, _⟩) (v := ?_) rfl (by kernel_rfl) (by kernel_rfl) (by kernel_rfl) (by kernel_rfl) (fun _ _ _ h => h) (fun W n h => HST.out W _ h (below_drewN _ W n)) (Or.inl (Or.inl ⟨by rfl, ?_⟩)) hSd ?_
  rotate_left
  · intro W hSw; (try dsimp only at hSw); obtain ⟨-, q1, -, -, q4, q5, -, -, -, -, qa, qb, -, -⟩ := (HS0.out W).1 hSw; have hcv := bytes_str q1; obtain ⟨⟨e0, e1⟩, -⟩ := two_new _ _ _ q4; obtain ⟨⟨f0, f1⟩, -⟩ := two_new _ _ _ q5; have lm1 := qa.cells; have lm2 := qb.cells; clear q1 q4 q5 qa qb; first | (go_simp; done) | (go_simp; with_reducible rfl)
  try simp only [Act.put, List.setIfInBounds_toArray, List.set_cons_zero, List.set_cons_succ]
  refine wpAnyD_take (i := 1) (oi := ⟨_, _, _, _, _, _⟩) (v := ?_) rfl (by kernel_rfl) (by kernel_rfl) (by kernel_rfl) (by kernel_rfl) (fun _ _ _ h => h) (fun W n h => HST.out W _ h (below_drewN _ W n)) (Or.inl (Or.inl ⟨by rfl, ?_⟩)) hSd ?_
  rotate_left
  · intro W hSw; (try dsimp only at hSw); obtain ⟨-, q1, -, -, q4, q5, -, -, -, -, qa, qb, -, -⟩ := (HS0.out W).1 hSw; have hcv := bytes_str q1; obtain ⟨⟨e0, e1⟩, -⟩ := two_new _ _ _ q4; obtain ⟨⟨f0, f1⟩, -⟩ := two_new _ _ _ q5; have lm1 := qa.cells; have lm2 := qb.cells; clear q1 q4 q5 qa qb; first | (go_simp; done) | (go_simp; with_reducible rfl)
  try simp only [Act.put, List.setIfInBounds_toArray, List.set_cons_zero, List.set_cons_succ]
  refine wpAnyD_take (i := 2) (oi := ⟨_, _, _, _, _, _⟩) (v := ?_) rfl (by kernel_rfl) (by kernel_rfl) (by kernel_rfl) (by kernel_rfl) (fun _ _ _ h => h) (fun W n h => HST.out W _ h (below_drewN _ W n)) (Or.inl (Or.inl ⟨by rfl, ?_⟩)) hSd ?_
  rotate_left
  · intro W hSw; (try dsimp only at hSw); obtain ⟨-, q1, -, -, q4, q5, -, -, -, -, qa, qb, -, -⟩ := (HS0.out W).1 hSw; have hcv := bytes_str q1; obtain ⟨⟨e0, e1⟩, -⟩ := two_new _ _ _ q4; obtain ⟨⟨f0, f1⟩, -⟩ := two_new _ _ _ q5; have lm1 := qa.cells; have lm2 := qb.cells; clear q1 q4 q5 qa qb; first | (go_simp; done) | (go_simp; with_reducible rfl)
  try simp only [Act.put, List.setIfInBounds_toArray, List.set_cons_zero, List.set_cons_succ]
  refine wpAnyD_take (i := 3) (oi := ⟨_, _, _, _, _, _⟩) (v := ?_) rfl (by kernel_rfl) (by kernel_rfl) (by kernel_rfl) (by kernel_rfl) (fun _ _ _ h => h) (fun W n h => HST.out W _ h (below_drewN _ W n)) (Or.inl (Or.inl ⟨by rfl, ?_⟩)) hSd ?_
  rotate_left
  · intro W hSw; (try dsimp only at hSw); obtain ⟨-, q1, -, -, q4, q5, -, -, -, -, qa, qb, -, -⟩ := (HS0.out W).1 hSw; have hcv := bytes_str q1; obtain ⟨⟨e0, e1⟩, -⟩ := two_new _ _ _ q4; obtain ⟨⟨f0, f1⟩, -⟩ := two_new _ _ _ q5; have lm1 := qa.cells; have lm2 := qb.cells; clear q1 q4 q5 qa qb; first | (go_simp; done) | (go_simp; with_reducible rfl)
  try simp only [Act.put, List.setIfInBounds_toArray, List.set_cons_zero, List.set_cons_succ]
  refine wpAnyD_take (i := 4) (oi := ⟨_, _, _, _, _, _⟩) (v := ?_) rfl (by kernel_rfl) (by kernel_rfl) (by kernel_rfl) (by kernel_rfl) (fun _ _ _ h => h) (fun W n h => HST.out W _ h (below_drewN _ W n)) (Or.inl (Or.inl ⟨by rfl, ?_⟩)) hSd ?_
  rotate_left
  · intro W hSw; (try dsimp only at hSw); obtain ⟨-, q1, -, -, q4, q5, -, -, -, -, qa, qb, -, -⟩ := (HS0.out W).1 hSw; have hcv := bytes_str q1; obtain ⟨⟨e0, e1⟩, -⟩ := two_new _ _ _ q4; obtain ⟨⟨f0, f1⟩, -⟩ := two_new _ _ _ q5; have lm1 := qa.cells; have lm2 := qb.cells; clear q1 q4 q5 qa qb; first | (go_simp; done) | (go_simp; with_reducible rfl)
  try simp only [Act.put, List.setIfInBounds_toArray, List.set_cons_zero, List.set_cons_succ]
  refine wpAnyD_take (i := 5) (oi := ⟨_, _, _, _, _, _⟩) (v := ?_) rfl (by kernel_rfl) (by kernel_rfl) (by kernel_rfl) (by kernel_rfl) (fun _ _ _ h => h) (fun W n h => HST.out W _ h (below_drewN _ W n)) (Or.inl (Or.inl ⟨by rfl, ?_⟩)) hSd ?_
  rotate_left
  · intro W hSw; (try dsimp only at hSw); obtain ⟨-, q1, -, -, q4, q5, -, -, -, -, qa, qb, -, -⟩ := (HS0.out W).1 hSw; have hcv := bytes_str q1; obtain ⟨⟨e0, e1⟩, -⟩ := two_new _ _ _ q4; obtain ⟨⟨f0, f1⟩, -⟩ := two_new _ _ _ q5; have lm1 := qa.cells; have lm2 := qb.cells; clear q1 q4 q5 qa qb; first | (go_simp; done) | (go_simp; with_reducible rfl)
  try simp only [Act.put, List.setIfInBounds_toArray, List.set_cons_zero, List.set_cons_succ]
  refine wpAnyD_take (i := 6) (oi := ⟨_, _, _, _, _, _⟩) (v := ?_) rfl (by kernel_rfl) (by kernel_rfl) (by kernel_rfl) (by kernel_rfl) (fun _ _ _ h => h) (fun W n h => HST.out W _ h (below_drewN _ W n)) (Or.inl (Or.inl ⟨by rfl, ?_⟩)) hSd ?_
  rotate_left
  · intro W hSw; (try dsimp only at hSw); obtain ⟨-, q1, -, -, q4, q5, -, -, -, -, qa, qb, -, -⟩ := (HS0.out W).1 hSw; have hcv := bytes_str q1; obtain ⟨⟨e0, e1⟩, -⟩ := two_new _ _ _ q4; obtain ⟨⟨f0, f1⟩, -⟩ := two_new _ _ _ q5; have lm1 := qa.cells; have lm2 := qb.cells; clear q1 q4 q5 qa qb; first | (go_simp; done) | (go_simp; with_reducible rfl)
  try simp only [Act.put, List.setIfInBounds_toArray, List.set_cons_zero, List.set_cons_succ]
  refine wpAnyD_take (i := 7) (oi := ⟨_, _, _, _, _, _⟩) (v := ?_) rfl (by kernel_rfl) (by kernel_rfl) (by kernel_rfl) (by kernel_rfl) (fun _ _ _ h => h) (fun W n h => HST.out W _ h (below_drewN _ W n)) (Or.inl (Or.inl ⟨by rfl, ?_⟩)) hSd ?_
  rotate_left
  · intro W hSw; (try dsimp only at hSw); obtain ⟨-, q1, -, -, q4, q5, -, -, -, -, qa, qb, -, -⟩ := (HS0.out W).1 hSw; have hcv := bytes_str q1; obtain ⟨⟨e0, e1⟩, -⟩ := two_new _ _ _ q4; obtain ⟨⟨f0, f1⟩, -⟩ := two_new _ _ _ q5; have lm1 := qa.cells; have lm2 := qb.cells; clear q1 q4 q5 qa qb; first | (go_simp; done) | (go_simp; with_reducible rfl)
  try simp only [Act.put, List.setIfInBounds_toArray, List.set_cons_zero, List.set_cons_succ]
  refine wpAnyD_take (i := 8) (oi := ⟨_, _, _, _, _, _⟩) (v := ?_) rfl (by kernel_rfl) (by kernel_rfl) (by kernel_rfl) (by kernel_rfl) (fun _ _ _ h => h) (fun W n h => HST.out W _ h (below_drewN _ W n)) (Or.inl (Or.inl ⟨by rfl, ?_⟩)) hSd ?_
  rotate_left
  · intro W hSw; (try dsimp only at hSw); obtain ⟨-, q1, -, -, q4, q5, -, -, -, -, qa, qb, -, -⟩ := (HS0.out W).1 hSw; have hcv := bytes_str q1; obtain ⟨⟨e0, e1⟩, -⟩ := two_new _ _ _ q4; obtain ⟨⟨f0, f1⟩, -⟩ := two_new _ _ _ q5; have lm1 := qa.cells; have lm2 := qb.cells; clear q1 q4 q5 qa qb; first | (go_simp; done) | (go_simp; with_reducible rfl)
  try simp only [Act.put, List.setIfInBounds_toArray, List.set_cons_zero, List.set_cons_succ]
  refine wpAnyD_take (i := 9) (oi := ⟨_, _, _, _, _, _⟩) (v := ?_) rfl (by kernel_rfl) (by kernel_rfl) (by kernel_rfl) (by kernel_rfl) (fun _ _ _ h => h) (fun W n h => HST.out W _ h (below_drewN _ W n)) (Or.inl (Or.inl ⟨by rfl, ?_⟩)) hSd ?_
  rotate_left
  · intro W hSw; (try dsimp only at hSw); obtain ⟨-, q1, -, -, q4, q5, -, -, -, -, qa, qb, -, -⟩ := (HS0.out W).1 hSw; have hcv := bytes_str q1; obtain ⟨⟨e0, e1⟩, -⟩ := two_new _ _ _ q4; obtain ⟨⟨f0, f1⟩, -⟩ := two_new _ _ _ q5; have lm1 := qa.cells; have lm2 := qb.cells; clear q1 q4 q5 qa qb; first | (go_simp; done) | (go_simp; with_reducible rfl)
  try simp only [Act.put, List.setIfInBounds_toArray, List.set_cons_zero, List.set_cons_succ]
  refine wpAnyD_take (i := 10) (oi := ⟨_, _, _, _, _, _⟩) (v := ?_) rfl (by kernel_rfl) (by kernel_rfl) (by kernel_rfl) (by kernel_rfl) (fun _ _ _ h => h) (fun W n h => HST.out W _ h (below_drewN _ W n)) (Or.inl (Or.inl ⟨by rfl, ?_⟩)) hSd ?_
  rotate_left
  · intro W hSw; (try dsimp only at hSw); obtain ⟨-, q1, -, -, q4, q5, -, -, -, -, qa, qb, -, -⟩ := (HS0.out W).1 hSw; have hcv := bytes_str q1; obtain ⟨⟨e0, e1⟩, -⟩ := two_new _ _ _ q4; obtain ⟨⟨f0, f1⟩, -⟩ := two_new _ _ _ q5; have lm1 := qa.cells; have lm2 := qb.cells; clear q1 q4 q5 qa qb; first | (go_simp; done) | (go_simp; with_reducible rfl)
  try simp only [Act.put, List.setIfInBounds_toArray, List.set_cons_zero, List.set_cons_succ]
  refine wpAnyD_take (i := 11) (oi := ⟨_, _, _, _, _, _⟩) (v := ?_) rfl (by kernel_rfl) (by kernel_rfl) (by kernel_rfl) (by kernel_rfl) (fun _ _ _ h => h) (fun W n h => HST.out W _ h (below_drewN _ W n)) (Or.inl (Or.inl ⟨by rfl, ?_⟩)) hSd ?_
  rotate_left
  · intro W hSw; (try dsimp only at hSw); obtain ⟨-, q1, -, -, q4, q5, -, -, -, -, qa, qb, -, -⟩ := (HS0.out W).1 hSw; have hcv := bytes_str q1; obtain ⟨⟨e0, e1⟩, -⟩ := two_new _ _ _ q4; obtain ⟨⟨f0, f1⟩, -⟩ := two_new _ _ _ q5; have lm1 := qa.cells; have lm2 := qb.cells; clear q1 q4 q5 qa qb; first | (go_simp; done) | (go_simp; with_reducible rfl)
  try simp only [Act.put, List.setIfInBounds_toArray, List.set_cons_zero, List.set_cons_succ]
  refine wpAnyD_take (i := 12) (oi := ⟨_, _, _, _, _, _⟩) (v := ?_) rfl (by kernel_rfl) (by kernel_rfl) (by kernel_rfl) (by kernel_rfl) (fun _ _ _ h => h) (fun W n h => HST.out W _ h (below_drewN _ W n)) (Or.inl (Or.inl ⟨by rfl, ?_⟩)) hSd ?_
  rotate_left
  · intro W hSw; (try dsimp only at hSw); obtain ⟨-, q1, -, -, q4, q5, -, -, -, -, qa, qb, -, -⟩ := (HS0.out W).1 hSw; have hcv := bytes_str q1; obtain ⟨⟨e0, e1⟩, -⟩ := two_new _ _ _ q4; obtain ⟨⟨f0, f1⟩, -⟩ := two_new _ _ _ q5; have lm1 := qa.cells; have lm2 := qb.cells; clear q1 q4 q5 qa qb; first | (go_simp; done) | (go_simp; with_reducible rfl)
  try simp only [Act.put, List.setIfInBounds_toArray, List.set_cons_zero, List.set_cons_succ]
  refine wpAnyD_take (i := 13) (oi := ⟨_, _, _, _, _, _⟩) (v := ?_) rfl (by kernel_rfl) (by kernel_rfl) (by kernel_rfl) (by kernel_rfl) (fun _ _ _ h => h) (fun W n h => HST.out W _ h (below_drewN _ W n)) (Or.inl (Or.inl ⟨by rfl, ?_⟩)) hSd ?_
  rotate_left
  · intro W hSw; (try dsimp only at hSw); obtain ⟨-, q1, -, -, q4, q5, -, -, -, -, qa, qb, -, -⟩ := (HS0.out W).1 hSw; have hcv := bytes_str q1; obtain ⟨⟨e0, e1⟩, -⟩ := two_new _ _ _ q4; obtain ⟨⟨f0, f1⟩, -⟩ := two_new _ _ _ q5; have lm1 := qa.cells; have lm2 := qb.cells; clear q1 q4 q5 qa qb; first | (go_simp; done) | (go_simp; with_reducible rfl)
  try simp only [Act.put, List.setIfInBounds_toArray, List.set_cons_zero, List.set_cons_succ]
  refine wpAnyD_take (i := 14) (oi := ⟨_, _, _, _, _, _⟩) (v := ?_) rfl (by kernel_rfl) (by kernel_rfl) (by kernel_rfl) (by kernel_rfl) (fun _ _ _ h => h) (fun W n h => HST.out W _ h (below_drewN _ W n)) (Or.inl (Or.inl ⟨by rfl, ?_⟩)) hSd ?_
  rotate_left
  · intro W hSw; (try dsimp only at hSw); obtain ⟨-, q1, -, -, q4, q5, -, -, -, -, qa, qb, -, -⟩ := (HS0.out W).1 hSw; have hcv := bytes_str q1; obtain ⟨⟨e0, e1⟩, -⟩ := two_new _ _ _ q4; obtain ⟨⟨f0, f1⟩, -⟩ := two_new _ _ _ q5; have lm1 := qa.cells; have lm2 := qb.cells; clear q1 q4 q5 qa qb; first | (go_simp; done) | (go_simp; with_reducible rfl)
  try simp only [Act.put, List.setIfInBounds_toArray, List.set_cons_zero, List.set_cons_succ]
  refine wpAnyD_take (i := 15) (oi := ⟨_, _, _, _, _, _⟩) (v := ?_) rfl (by kernel_rfl) (by kernel_rfl) (by kernel_rfl) (by kernel_rfl) (fun _ _ _ h => h) (fun W n h => HST.out W _ h (below_drewN _ W n)) (Or.inl (Or.inl ⟨by rfl, ?_⟩)) hSd ?_
  rotate_left
  · intro W hSw; (try dsimp only at hSw); obtain ⟨-, q1, -, -, q4, q5, -, -, -, -, qa, qb, -, -⟩ := (HS0.out W).1 hSw; have hcv := bytes_str q1; obtain ⟨⟨e0, e1⟩, -⟩ := two_new _ _ _ q4; obtain ⟨⟨f0, f1⟩, -⟩ := two_new _ _ _ q5; have lm1 := qa.cells; have lm2 := qb.cells; clear q1 q4 q5 qa qb; first | (go_simp; done) | (go_simp; with_reducible rfl)
  try simp only [Act.put, List.setIfInBounds_toArray, List.set_cons_zero, List.set_cons_succ]
  refine wpAnyD_take (i := 16) (oi := ⟨_, _, _, _, _, _⟩) (v := ?_) rfl (by kernel_rfl) (by kernel_rfl) (by kernel_rfl) (by kernel_rfl) (fun _ _ _ h => h) (fun W n h => HST.out W _ h (below_drewN _ W n)) (Or.inl (Or.inl ⟨by rfl, ?_⟩)) hSd ?_
  rotate_left
  · intro W hSw; (try dsimp only at hSw); obtain ⟨-, q1, -, -, q4, q5, -, -, -, -, qa, qb, -, -⟩ := (HS0.out W).1 hSw; have hcv := bytes_str q1; obtain ⟨⟨e0, e1⟩, -⟩ := two_new _ _ _ q4; obtain ⟨⟨f0, f1⟩, -⟩ := two_new _ _ _ q5; have lm1 := qa.cells; have lm2 := qb.cells; clear q1 q4 q5 qa qb; first | (go_simp; done) | (go_simp; with_reducible rfl)
  try simp only [Act.put, List.setIfInBounds_toArray, List.set_cons_zero, List.set_cons_succ]
  refine wpAnyD_take (i := 17) (oi := ⟨_, _, _, _, _, _⟩) (v := ?_) rfl (by kernel_rfl) (by kernel_rfl) (by kernel_rfl) (by kernel_rfl) (fun _ _ _ h => h) (fun W n h => HST.out W _ h (below_drewN _ W n)) (Or.inl (Or.inl ⟨by rfl, ?_⟩)) hSd ?_
  rotate_left
  · intro W hSw; (try dsimp only at hSw); obtain ⟨-, q1, -, -, q4, q5, -, -, -, -, qa, qb, -, -⟩ := (HS0.out W).1 hSw; have hcv := bytes_str q1; obtain ⟨⟨e0, e1⟩, -⟩ := two_new _ _ _ q4; obtain ⟨⟨f0, f1⟩, -⟩ := two_new _ _ _ q5; have lm1 := qa.cells; have lm2 := qb.cells; clear q1 q4 q5 qa qb; first | (go_simp; done) | (go_simp; with_reducible rfl)
  try simp only [Act.put, List.setIfInBounds_toArray, List.set_cons_zero, List.set_cons_succ]
  refine wpAnyD_take (i := 18) (oi := ⟨_, _, _, _, _, _⟩) (v := ?_) rfl (by kernel_rfl) (by kernel_rfl) (by kernel_rfl) (by kernel_rfl) (fun _ _ _ h => h) (fun W n h => HST.out W _ h (below_drewN _ W n)) (Or.inl (Or.inl ⟨by rfl, ?_⟩)) hSd ?_
  rotate_left
  · intro W hSw; (try dsimp only at hSw); obtain ⟨-, q1, -, -, q4, q5, -, -, -, -, qa, qb, -, -⟩ := (HS0.out W).1 hSw; have hcv := bytes_str q1; obtain ⟨⟨e0, e1⟩, -⟩ := two_new _ _ _ q4; obtain ⟨⟨f0, f1⟩, -⟩ := two_new _ _ _ q5; have lm1 := qa.cells; have lm2 := qb.cells; clear q1 q4 q5 qa qb; first | (go_simp; done) | (go_simp; with_reducible rfl)
  try simp only [Act.put, List.setIfInBounds_toArray, List.set_cons_zero, List.set_cons_succ]
  refine wpAnyD_take (i := 19) (oi := ⟨_, _, _, _, _, _⟩) (v := ?_) rfl (by kernel_rfl) (by kernel_rfl) (by kernel_rfl) (by kernel_rfl) (fun _ _ _ h => h) (fun W n h => HST.out W _ h (below_drewN _ W n)) (Or.inl (Or.inl ⟨by rfl, ?_⟩)) hSd ?_
  rotate_left
  · intro W hSw; (try dsimp only at hSw); obtain ⟨-, q1, -, -, q4, q5, -, -, -, -, qa, qb, -, -⟩ := (HS0.out W).1 hSw; have hcv := bytes_str q1; obtain ⟨⟨e0, e1⟩, -⟩ := two_new _ _ _ q4; obtain ⟨⟨f0, f1⟩, -⟩ := two_new _ _ _ q5; have lm1 := qa.cells; have lm2 := qb.cells; clear q1 q4 q5 qa qb; first | (go_simp; done) | (go_simp; with_reducible rfl)
  try simp only [Act.put, List.setIfInBounds_toArray, List.set_cons_zero, List.set_cons_succ]
  refine wpAnyD_take (i := 20) (oi := ⟨_, _, _, _, _, _⟩) (v := ?_) rfl (by kernel_rfl) (by kernel_rfl) (by kernel_rfl) (by kernel_rfl) (fun _ _ _ h => h) (fun W n h => HST.out W _ h (below_drewN _ W n)) (Or.inl (Or.inl ⟨by rfl, ?_⟩)) hSd ?_
  rotate_left
  · intro W hSw; (try dsimp only at hSw); obtain ⟨-, q1, -, -, q4, q5, -, -, -, -, qa, qb, -, -⟩ := (HS0.out W).1 hSw; have hcv := bytes_str q1; obtain ⟨⟨e0, e1⟩, -⟩ := two_new _ _ _ q4; obtain ⟨⟨f0, f1⟩, -⟩ := two_new _ _ _ q5; have lm1 := qa.cells; have lm2 := qb.cells; clear q1 q4 q5 qa qb; first | (go_simp; done) | (go_simp; with_reducible rfl)
  try simp only [Act.put, List.setIfInBounds_toArray, List.set_cons_zero, List.set_cons_succ]
  clear hSd
  refine wpAnyD_one (i := 21) (o := ⟨_, _, _, _, _, _⟩) (by kernel_rfl) (by decide) rfl (fun nq K hK0 => ?_)
  have hK := Lib.hid hK0
  clear hK0
  have HSc := Lib.hid (HST.out _ _ HSc.out (below_drewN _ w17.drew nq))
  generalize w17.drew.drewN nq = wd21 at *
  go_simp
  refine (HQ21.out wd21 HSc.out).mono ?_
  rintro e we ⟨rfl, nz, rfl⟩
  have HSc := Lib.hid (HST.out _ _ HSc.out (below_drewN _ wd21 nz))
  generalize wd21.drewN nz = we21 at *
  try go_wp2_with fail
  refine hK.out _ _ HSc.out ?_
  clear hK K
  try simp only [Act.put, List.setIfInBounds_toArray, List.set_cons_zero, List.set_cons_succ]
  have hSd := HSc.out
  refine wpAnyD_take (i := 22) (oi := ⟨_, _, _, _, _, _⟩) (v := ?_) rfl (by kernel_rfl) (by kernel_rfl) (by kernel_rfl) (by kernel_rfl) (fun _ _ _ h => h) (fun W n h => HST.out W _ h (below_drewN _ W n)) (Or.inl (Or.inl ⟨by rfl, ?_⟩)) hSd ?_
  rotate_left
  · intro W hSw; (try dsimp only at hSw); obtain ⟨-, q1, -, -, q4, q5, -, -, -, -, qa, qb, -, -⟩ := (HS0.out W).1 hSw; have hcv := bytes_str q1; obtain ⟨⟨e0, e1⟩, -⟩ := two_new _ _ _ q4; obtain ⟨⟨f0, f1⟩, -⟩ := two_new _ _ _ q5; have lm1 := qa.cells; have lm2 := qb.cells; clear q1 q4 q5 qa qb; first | (go_simp; done) | (go_simp; with_reducible rfl)
  try simp only [Act.put, List.setIfInBounds_toArray, List.set_cons_zero, List.set_cons_succ]
  refine wpAnyD_take (i := 23) (oi := ⟨_, _, _, _, _, _⟩) (v := ?_) rfl (by kernel_rfl) (by kernel_rfl) (by kernel_rfl) (by kernel_rfl) (fun _ _ _ h => h) (fun W n h => HST.out W _ h (below_drewN _ W n)) (Or.inl (Or.inl ⟨by rfl, ?_⟩)) hSd ?_
  rotate_left
  · intro W hSw; (try dsimp only at hSw); obtain ⟨-, q1, -, -, q4, q5, -, -, -, -, qa, qb, -, -⟩ := (HS0.out W).1 hSw; have hcv := bytes_str q1; obtain ⟨⟨e0, e1⟩, -⟩ := two_new _ _ _ q4; obtain ⟨⟨f0, f1⟩, -⟩ := two_new _ _ _ q5; have lm1 := qa.cells; have lm2 := qb.cells; clear q1 q4 q5 qa qb; first | (go_simp; done) | (go_simp; with_reducible rfl)
  try simp only [Act.put, List.setIfInBounds_toArray, List.set_cons_zero, List.set_cons_succ]
  refine wpAnyD_take (i := 24) (oi := ⟨_, _, _, _, _, _⟩) (v := ?_) rfl (by kernel_rfl) (by kernel_rfl) (by kernel_rfl) (by kernel_rfl) (fun _ _ _ h => h) (fun W n h => HST.out W _ h (below_drewN _ W n)) (Or.inl (Or.inl ⟨by rfl, ?_⟩)) hSd ?_
  rotate_left
  · intro W hSw; (try dsimp only at hSw); obtain ⟨-, q1, -, -, q4, q5, -, -, -, -, qa, qb, -, -⟩ := (HS0.out W).1 hSw; have hcv := bytes_str q1; obtain ⟨⟨e0, e1⟩, -⟩ := two_new _ _ _ q4; obtain ⟨⟨f0, f1⟩, -⟩ := two_new _ _ _ q5; have lm1 := qa.cells; have lm2 := qb.cells; clear q1 q4 q5 qa qb; first | (go_simp; done) | (go_simp; with_reducible rfl)
  try simp only [Act.put, List.setIfInBounds_toArray, List.set_cons_zero, List.set_cons_succ]
  refine wpAnyD_take (i := 25) (oi := ⟨_, _, _, _, _, _⟩) (v := ?_) rfl (by kernel_rfl) (by kernel_rfl) (by kernel_rfl) (by kernel_rfl) (fun _ _ _ h => h) (fun W n h => HST.out W _ h (below_drewN _ W n)) (Or.inl (Or.inl ⟨by rfl, ?_⟩)) hSd ?_
  rotate_left
  · intro W hSw; (try dsimp only at hSw); obtain ⟨-, q1, -, -, q4, q5, -, -, -, -, qa, qb, -, -⟩ := (HS0.out W).1 hSw; have hcv := bytes_str q1; obtain ⟨⟨e0, e1⟩, -⟩ := two_new _ _ _ q4; obtain ⟨⟨f0, f1⟩, -⟩ := two_new _ _ _ q5; have lm1 := qa.cells; have lm2 := qb.cells; clear q1 q4 q5 qa qb; first | (go_simp; done) | (go_simp; with_reducible rfl)
  try simp only [Act.put, List.setIfInBounds_toArray, List.set_cons_zero, List.set_cons_succ]
  refine wpAnyD_take (i := 26) (oi := ⟨_, _, _, _, _, _⟩) (v := ?_) rfl (by kernel_rfl) (by kernel_rfl) (by kernel_rfl) (by kernel_rfl) (fun _ _ _ h => h) (fun W n h => HST.out W _ h (below_drewN _ W n)) (Or.inl (Or.inl ⟨by rfl, ?_⟩)) hSd ?_
  rotate_left
  · intro W hSw; (try dsimp only at hSw); obtain ⟨-, q1, -, -, q4, q5, -, -, -, -, qa, qb, -, -⟩ := (HS0.out W).1 hSw; have hcv := bytes_str q1; obtain ⟨⟨e0, e1⟩, -⟩ := two_new _ _ _ q4; obtain ⟨⟨f0, f1⟩, -⟩ := two_new _ _ _ q5; have lm1 := qa.cells; have lm2 := qb.cells; clear q1 q4 q5 qa qb; first | (go_simp; done) | (go_simp; with_reducible rfl)
  try simp only [Act.put, List.setIfInBounds_toArray, List.set_cons_zero, List.set_cons_succ]
  refine wpAnyD_take (i := 27) (oi := ⟨_, _, _, _, _, _⟩) (v := ?_) rfl (by kernel_rfl) (by kernel_rfl) (by kernel_rfl) (by kernel_rfl) (fun _ _ _ h => h) (fun W n h => HST.out W _ h (below_drewN _ W n)) (Or.inl (Or.inl ⟨by rfl, ?_⟩)) hSd ?_
  rotate_left
  · intro W hSw; (try dsimp only at hSw); obtain ⟨-, q1, -, -, q4, q5, -, -, -, -, qa, qb, -, -⟩ := (HS0.out W).1 hSw; have hcv := bytes_str q1; obtain ⟨⟨e0, e1⟩, -⟩ := two_new _ _ _ q4; obtain ⟨⟨f0, f1⟩, -⟩ := two_new _ _ _ q5; have lm1 := qa.cells; have lm2 := qb.cells; clear q1 q4 q5 qa qb; first | (go_simp; done) | (go_simp; with_reducible rfl)
  try simp only [Act.put, List.setIfInBounds_toArray, List.set_cons_zero, List.set_cons_succ]
  refine wpAnyD_take (i := 28) (oi := ⟨_, _, _, _, _, _⟩) (v := ?_) rfl (by kernel_rfl) (by kernel_rfl) (by kernel_rfl) (by kernel_rfl) (fun _ _ _ h => h) (fun W n h => HST.out W _ h (below_drewN _ W n)) (Or.inl (Or.inl ⟨by rfl, ?_⟩)) hSd ?_
  rotate_left
  · intro W hSw; (try dsimp only at hSw); obtain ⟨-, q1, -, -, q4, q5, -, -, -, -, qa, qb, -, -⟩ := (HS0.out W).1 hSw; have hcv := bytes_str q1; obtain ⟨⟨e0, e1⟩, -⟩ := two_new _ _ _ q4; obtain ⟨⟨f0, f1⟩, -⟩ := two_new _ _ _ q5; have lm1 := qa.cells; have lm2 := qb.cells; clear q1 q4 q5 qa qb; first | (go_simp; done) | (go_simp; with_reducible rfl)
  try simp only [Act.put, List.setIfInBounds_toArray, List.set_cons_zero, List.set_cons_succ]
  refine wpAnyD_take (i := 29) (oi := ⟨_, _, _, _, _, _⟩) (v := ?_) rfl (by kernel_rfl) (by kernel_rfl) (by kernel_rfl) (by kernel_rfl) (fun _ _ _ h => h) (fun W n h => HST.out W _ h (below_drewN _ W n)) (Or.inl (Or.inl ⟨by rfl, ?_⟩)) hSd ?_
  rotate_left
  · intro W hSw; (try dsimp only at hSw); obtain ⟨-, q1, -, -, q4, q5, -, -, -, -, qa, qb, -, -⟩ := (HS0.out W).1 hSw; have hcv := bytes_str q1; obtain ⟨⟨e0, e1⟩, -⟩ := two_new _ _ _ q4; obtain ⟨⟨f0, f1⟩, -⟩ := two_new _ _ _ q5; have lm1 := qa.cells; have lm2 := qb.cells; clear q1 q4 q5 qa qb; first | (go_simp; done) | (go_simp; with_reducible rfl)
  try simp only [Act.put, List.setIfInBounds_toArray, List.set_cons_zero, List.set_cons_succ]
  refine wpAnyD_take (i := 31) (oi := ⟨_, _, _, _, _, _⟩) (v := ?_) rfl (by kernel_rfl) (by kernel_rfl) (by kernel_rfl) (by kernel_rfl) (fun _ _ _ h => h) (fun W n h => HST.out W _ h (below_drewN _ W n)) (Or.inl (Or.inl ⟨by rfl, ?_⟩)) hSd ?_
  rotate_left
  · intro W hSw; (try dsimp only at hSw); obtain ⟨-, q1, -, -, q4, q5, -, -, -, -, qa, qb, -, -⟩ := (HS0.out W).1 hSw; have hcv := bytes_str q1; obtain ⟨⟨e0, e1⟩, -⟩ := two_new _ _ _ q4; obtain ⟨⟨f0, f1⟩, -⟩ := two_new _ _ _ q5; have lm1 := qa.cells; have lm2 := qb.cells; clear q1 q4 q5 qa qb; first | (go_simp; done) | (go_simp; with_reducible rfl)
  try simp only [Act.put, List.setIfInBounds_toArray, List.set_cons_zero, List.set_cons_succ]
  clear hSd
  refine wpAnyD_one (i := 30) (o := ⟨_, _, _, _, _, _⟩) (by kernel_rfl) (by decide) rfl (fun nq K hK0 => ?_)
  have hK := Lib.hid hK0
  clear hK0
  have HSc := Lib.hid (HST.out _ _ HSc.out (below_drewN _ we21 nq))
  generalize we21.drewN nq = wd30 at *
  go_simp
  refine (HQ30.out wd30 HSc.out).mono ?_
  rintro e we30 ⟨vt, rfl, hvt, hb⟩
  have HSc := Lib.hid (HST.out _ _ HSc.out hb)
  obtain ⟨va, vc, rfl⟩ := RowsC.shape hvt
  have HVT := Lib.hid hvt
  obtain ⟨vl, hvl⟩ : ∃ vl, tx.length = vl := ⟨_, rfl⟩
  rw [hvl] at HVT ⊢
  clear hvt hb hvl
  try go_wp2_with fail
  refine hK.out _ _ HSc.out ?_
  clear hK K
  try simp only [Act.put, List.setIfInBounds_toArray, List.set_cons_zero, List.set_cons_succ]
  have hSd := HSc.out
  clear hSd
  refine wpAnyD_one (i := 32) (o := ⟨_, _, _, _, _, _⟩) (by kernel_rfl) (by decide) rfl (fun nq K hK0 => ?_)
  have hK := Lib.hid hK0
  clear hK0
  have HSc := Lib.hid (HST.out _ _ HSc.out (below_drewN _ we30 nq))
  have HVD := Lib.hid (RowsC.kept ent_keeps HVT.out (S' := fun _ => True) (w' := we30.drewN nq) (fun k hk => ⟨trivial, rfl⟩))
  generalize we30.drewN nq = wd32 at *
  go_simp
  refine (HQ32.out _ _ wd32 HSc.out HVD.out).mono ?_
  rintro e we ⟨rfl, nz, rfl⟩
  have HSc := Lib.hid (HST.out _ _ HSc.out (below_drewN _ wd32 nz))
  generalize wd32.drewN nz = we32 at *
  try go_wp2_with fail
  refine hK.out _ _ HSc.out ?_
  clear hK K
  try simp only [Act.put, List.setIfInBounds_toArray, List.set_cons_zero, List.set_cons_succ]
  have hSd := HSc.out
  refine wpAnyD_take (i := 33) (oi := ⟨_, _, _, _, _, _⟩) (v := ?_) rfl (by kernel_rfl) (by kernel_rfl) (by kernel_rfl) (by kernel_rfl) (fun _ _ _ h => h) (fun W n h => HST.out W _ h (below_drewN _ W n)) (Or.inl (Or.inl ⟨by rfl, ?_⟩)) hSd ?_
  rotate_left
  · intro W hSw; (try dsimp only at hSw); obtain ⟨-, q1, -, -, q4, q5, -, -, -, -, qa, qb, -, -⟩ := (HS0.out W).1 hSw; have hcv := bytes_str q1; obtain ⟨⟨e0, e1⟩, -⟩ := two_new _ _ _ q4; obtain ⟨⟨f0, f1⟩, -⟩ := two_new _ _ _ q5; have lm1 := qa.cells; have lm2 := qb.cells; clear q1 q4 q5 qa qb; first | (go_simp; done) | (go_simp; with_reducible rfl)
  try simp only [Act.put, List.setIfInBounds_toArray, List.set_cons_zero, List.set_cons_succ]
  refine wpAnyD_take (i := 34) (oi := ⟨_, _, _, _, _, _⟩) (v := ?_) rfl (by kernel_rfl) (by kernel_rfl) (by kernel_rfl) (by kernel_rfl) (fun _ _ _ h => h) (fun W n h => HST.out W _ h (below_drewN _ W n)) (Or.inl (Or.inl ⟨by rfl, ?_⟩)) hSd ?_
  rotate_left
  · intro W hSw; (try dsimp only at hSw); obtain ⟨-, q1, -, -, q4, q5, -, -, -, -, qa, qb, -, -⟩ := (HS0.out W).1 hSw; have hcv := bytes_str q1; obtain ⟨⟨e0, e1⟩, -⟩ := two_new _ _ _ q4; obtain ⟨⟨f0, f1⟩, -⟩ := two_new _ _ _ q5; have lm1 := qa.cells; have lm2 := qb.cells; clear q1 q4 q5 qa qb; first | (go_simp; done) | (go_simp; with_reducible rfl)
  try simp only [Act.put, List.setIfInBounds_toArray, List.set_cons_zero, List.set_cons_succ]
  refine wpAnyD_take (i := 35) (oi := ⟨_, _, _, _, _, _⟩) (v := ?_) rfl (by kernel_rfl) (by kernel_rfl) (by kernel_rfl) (by kernel_rfl) (fun _ _ _ h => h) (fun W n h => HST.out W _ h (below_drewN _ W n)) (Or.inl (Or.inl ⟨by rfl, ?_⟩)) hSd ?_
  rotate_left
  · intro W hSw; (try dsimp only at hSw); obtain ⟨-, q1, -, -, q4, q5, -, -, -, -, qa, qb, -, -⟩ := (HS0.out W).1 hSw; have hcv := bytes_str q1; obtain ⟨⟨e0, e1⟩, -⟩ := two_new _ _ _ q4; obtain ⟨⟨f0, f1⟩, -⟩ := two_new _ _ _ q5; have lm1 := qa.cells; have lm2 := qb.cells; clear q1 q4 q5 qa qb; first | (go_simp; done) | (go_simp; with_reducible rfl)
  try simp only [Act.put, List.setIfInBounds_toArray, List.set_cons_zero, List.set_cons_succ]
  refine wpAnyD_take (i := 36) (oi := ⟨_, _, _, _, _, _⟩) (v := ?_) rfl (by kernel_rfl) (by kernel_rfl) (by kernel_rfl) (by kernel_rfl) (fun _ _ _ h => h) (fun W n h => HST.out W _ h (below_drewN _ W n)) (Or.inl (Or.inl ⟨by rfl, ?_⟩)) hSd ?_
  rotate_left
  · intro W hSw; (try dsimp only at hSw); obtain ⟨-, q1, -, -, q4, q5, -, -, -, -, qa, qb, -, -⟩ := (HS0.out W).1 hSw; have hcv := bytes_str q1; obtain ⟨⟨e0, e1⟩, -⟩ := two_new _ _ _ q4; obtain ⟨⟨f0, f1⟩, -⟩ := two_new _ _ _ q5; have lm1 := qa.cells; have lm2 := qb.cells; clear q1 q4 q5 qa qb; first | (go_simp; done) | (go_simp; with_reducible rfl)
  try simp only [Act.put, List.setIfInBounds_toArray, List.set_cons_zero, List.set_cons_succ]
  refine wpAnyD_take (i := 37) (oi := ⟨_, _, _, _, _, _⟩) (v := ?_) rfl (by kernel_rfl) (by kernel_rfl) (by kernel_rfl) (by kernel_rfl) (fun _ _ _ h => h) (fun W n h => HST.out W _ h (below_drewN _ W n)) (Or.inl (Or.inl ⟨by rfl, ?_⟩)) hSd ?_
  rotate_left
  · intro W hSw; (try dsimp only at hSw); obtain ⟨-, q1, -, -, q4, q5, -, -, -, -, qa, qb, -, -⟩ := (HS0.out W).1 hSw; have hcv := bytes_str q1; obtain ⟨⟨e0, e1⟩, -⟩ := two_new _ _ _ q4; obtain ⟨⟨f0, f1⟩, -⟩ := two_new _ _ _ q5; have lm1 := qa.cells; have lm2 := qb.cells; clear q1 q4 q5 qa qb; first | (go_simp; done) | (go_simp; with_reducible rfl)
  try simp only [Act.put, List.setIfInBounds_toArray, List.set_cons_zero, List.set_cons_succ]
  refine wpAnyD_take (i := 38) (oi := ⟨_, _, _, _, _, _⟩) (v := ?_) rfl (by kernel_rfl) (by kernel_rfl) (by kernel_rfl) (by kernel_rfl) (fun _ _ _ h => h) (fun W n h => HST.out W _ h (below_drewN _ W n)) (Or.inl (Or.inl ⟨by rfl, ?_⟩)) hSd ?_
  rotate_left
  · intro W hSw; (try dsimp only at hSw); obtain ⟨-, q1, -, -, q4, q5, -, -, -, -, qa, qb, -, -⟩ := (HS0.out W).1 hSw; have hcv := bytes_str q1; obtain ⟨⟨e0, e1⟩, -⟩ := two_new _ _ _ q4; obtain ⟨⟨f0, f1⟩, -⟩ := two_new _ _ _ q5; have lm1 := qa.cells; have lm2 := qb.cells; clear q1 q4 q5 qa qb; first | (go_simp; done) | (go_simp; with_reducible rfl)
  try simp only [Act.put, List.setIfInBounds_toArray, List.set_cons_zero, List.set_cons_succ]
  refine wpAnyD_take (i := 39) (oi := ⟨_, _, _, _, _, _⟩) (v := ?_) rfl (by kernel_rfl) (by kernel_rfl) (by kernel_rfl) (by kernel_rfl) (fun _ _ _ h => h) (fun W n h => HST.out W _ h (below_drewN _ W n)) (Or.inl (Or.inl ⟨by rfl, ?_⟩)) hSd ?_
  rotate_left
  · intro W hSw; (try dsimp only at hSw); obtain ⟨-, q1, -, -, q4, q5, -, -, -, -, qa, qb, -, -⟩ := (HS0.out W).1 hSw; have hcv := bytes_str q1; obtain ⟨⟨e0, e1⟩, -⟩ := two_new _ _ _ q4; obtain ⟨⟨f0, f1⟩, -⟩ := two_new _ _ _ q5; have lm1 := qa.cells; have lm2 := qb.cells; clear q1 q4 q5 qa qb; first | (go_simp; done) | (go_simp; with_reducible rfl)
  try simp only [Act.put, List.setIfInBounds_toArray, List.set_cons_zero, List.set_cons_succ]
  refine wpAnyD_take (i := 40) (oi := ⟨_, _, _, _, _, _⟩) (v := ?_) rfl (by kernel_rfl) (by kernel_rfl) (by kernel_rfl) (by kernel_rfl) (fun _ _ _ h => h) (fun W n h => HST.out W _ h (below_drewN _ W n)) (Or.inl (Or.inl ⟨by rfl, ?_⟩)) hSd ?_
  rotate_left
  · intro W hSw; (try dsimp only at hSw); obtain ⟨-, q1, -, -, q4, q5, -, -, -, -, qa, qb, -, -⟩ := (HS0.out W).1 hSw; have hcv := bytes_str q1; obtain ⟨⟨e0, e1⟩, -⟩ := two_new _ _ _ q4; obtain ⟨⟨f0, f1⟩, -⟩ := two_new _ _ _ q5; have lm1 := qa.cells; have lm2 := qb.cells; clear q1 q4 q5 qa qb; first | (go_simp; done) | (go_simp; with_reducible rfl)
  try simp only [Act.put, List.setIfInBounds_toArray, List.set_cons_zero, List.set_cons_succ]
  refine wpAnyD_take (i := 42) (oi := ⟨_, _, _, _, _, _⟩) (v := ?_) rfl (by kernel_rfl) (by kernel_rfl) (by kernel_rfl) (by kernel_rfl) (fun _ _ _ h => h) (fun W n h => HST.out W _ h (below_drewN _ W n)) (Or.inl (Or.inl ⟨by rfl, ?_⟩)) hSd ?_
  rotate_left
  · intro W hSw; (try dsimp only at hSw); obtain ⟨-, q1, -, -, q4, q5, -, -, -, -, qa, qb, -, -⟩ := (HS0.out W).1 hSw; have hcv := bytes_str q1; obtain ⟨⟨e0, e1⟩, -⟩ := two_new _ _ _ q4; obtain ⟨⟨f0, f1⟩, -⟩ := two_new _ _ _ q5; have lm1 := qa.cells; have lm2 := qb.cells; clear q1 q4 q5 qa qb; first | (go_simp; done) | (go_simp; with_reducible rfl)
  try simp only [Act.put, List.setIfInBounds_toArray, List.set_cons_zero, List.set_cons_succ]
  clear hSd
  refine wpAnyD_one (i := 41) (o := ⟨_, _, _, _, _, _⟩) (by kernel_rfl) (by decide) rfl (fun nq K hK0 => ?_)
  have hK := Lib.hid hK0
  clear hK0
  have HSc := Lib.hid (HST.out _ _ HSc.out (below_drewN _ we32 nq))
  generalize we32.drewN nq = wd41 at *
  go_simp
  refine (HQ41.out wd41).mono ?_
  rintro e we41 ⟨rfl, hb⟩
  have HSc := Lib.hid (HST.out _ _ HSc.out hb)
  clear hb
  try go_wp2_with fail
  refine hK.out _ _ HSc.out ?_
  clear hK K
  try simp only [Act.put, List.setIfInBounds_toArray, List.set_cons_zero, List.set_cons_succ]
  have hSd := HSc.out
  clear hSd
  refine wpAnyD_one (i := 43) (o := ⟨_, _, _, _, _, _⟩) (by kernel_rfl) (by decide) rfl (fun nq K hK0 => ?_)
  have hK := Lib.hid hK0
  clear hK0
  have HSc := Lib.hid (HST.out _ _ HSc.out (below_drewN _ we41 nq))
  generalize we41.drewN nq = wd43 at *
  go_simp
  refine (HQ43.out wd43 HSc.out).mono ?_
  rintro e we43 ⟨rfl, hb⟩
  have HSc := Lib.hid (HST.out _ _ HSc.out hb)
  clear hb
  try go_wp2_with fail
  refine hK.out _ _ HSc.out ?_
  clear hK K
  try simp only [Act.put, List.setIfInBounds_toArray, List.set_cons_zero, List.set_cons_succ]
  have hSd := HSc.out
  refine wpAnyD_take (i := 44) (oi := ⟨_, _, _, _, _, _⟩) (v := ?_) rfl (by kernel_rfl) (by kernel_rfl) (by kernel_rfl) (by kernel_rfl) (fun _ _ _ h => h) (fun W n h => HST.out W _ h (below_drewN _ W n)) (Or.inl (Or.inl ⟨by rfl, ?_⟩)) hSd ?_
  rotate_left
  · intro W hSw; (try dsimp only at hSw); obtain ⟨-, q1, -, -, q4, q5, -, -, -, -, qa, qb, -, -⟩ := (HS0.out W).1 hSw; have hcv := bytes_str q1; obtain ⟨⟨e0, e1⟩, -⟩ := two_new _ _ _ q4; obtain ⟨⟨f0, f1⟩, -⟩ := two_new _ _ _ q5; have lm1 := qa.cells; have lm2 := qb.cells; clear q1 q4 q5 qa qb; first | (go_simp; done) | (go_simp; with_reducible rfl)
  try simp only [Act.put, List.setIfInBounds_toArray, List.set_cons_zero, List.set_cons_succ]
  refine wpAnyD_take (i := 45) (oi := ⟨_, _, _, _, _, _⟩) (v := ?_) rfl (by kernel_rfl) (by kernel_rfl) (by kernel_rfl) (by kernel_rfl) (fun _ _ _ h => h) (fun W n h => HST.out W _ h (below_drewN _ W n)) (Or.inl (Or.inl ⟨by rfl, ?_⟩)) hSd ?_
  rotate_left
  · intro W hSw; (try dsimp only at hSw); obtain ⟨-, q1, -, -, q4, q5, -, -, -, -, qa, qb, -, -⟩ := (HS0.out W).1 hSw; have hcv := bytes_str q1; obtain ⟨⟨e0, e1⟩, -⟩ := two_new _ _ _ q4; obtain ⟨⟨f0, f1⟩, -⟩ := two_new _ _ _ q5; have lm1 := qa.cells; have lm2 := qb.cells; clear q1 q4 q5 qa qb; first | (go_simp; done) | (go_simp; with_reducible rfl)
  try simp only [Act.put, List.setIfInBounds_toArray, List.set_cons_zero, List.set_cons_succ]
  refine wpAnyD_take (i := 46) (oi := ⟨_, _, _, _, _, _⟩) (v := ?_) rfl (by kernel_rfl) (by kernel_rfl) (by kernel_rfl) (by kernel_rfl) (fun _ _ _ h => h) (fun W n h => HST.out W _ h (below_drewN _ W n)) (Or.inl (Or.inl ⟨by rfl, ?_⟩)) hSd ?_
  rotate_left
  · intro W hSw; (try dsimp only at hSw); obtain ⟨-, q1, -, -, q4, q5, -, -, -, -, qa, qb, -, -⟩ := (HS0.out W).1 hSw; have hcv := bytes_str q1; obtain ⟨⟨e0, e1⟩, -⟩ := two_new _ _ _ q4; obtain ⟨⟨f0, f1⟩, -⟩ := two_new _ _ _ q5; have lm1 := qa.cells; have lm2 := qb.cells; clear q1 q4 q5 qa qb; first | (go_simp; done) | (go_simp; with_reducible rfl)
  try simp only [Act.put, List.setIfInBounds_toArray, List.set_cons_zero, List.set_cons_succ]
  refine wpAnyD_take (i := 47) (oi := ⟨_, _, _, _, _, _⟩) (v := ?_) rfl (by kernel_rfl) (by kernel_rfl) (by kernel_rfl) (by kernel_rfl) (fun _ _ _ h => h) (fun W n h => HST.out W _ h (below_drewN _ W n)) (Or.inl (Or.inl ⟨by rfl, ?_⟩)) hSd ?_
  rotate_left
  · intro W hSw; (try dsimp only at hSw); obtain ⟨-, q1, -, -, q4, q5, -, -, -, -, qa, qb, -, -⟩ := (HS0.out W).1 hSw; have hcv := bytes_str q1; obtain ⟨⟨e0, e1⟩, -⟩ := two_new _ _ _ q4; obtain ⟨⟨f0, f1⟩, -⟩ := two_new _ _ _ q5; have lm1 := qa.cells; have lm2 := qb.cells; clear q1 q4 q5 qa qb; first | (go_simp; done) | (go_simp; with_reducible rfl)
  try simp only [Act.put, List.setIfInBounds_toArray, List.set_cons_zero, List.set_cons_succ]
  refine wpAnyD_take (i := 48) (oi := ⟨_, _, _, _, _, _⟩) (v := ?_) rfl (by kernel_rfl) (by kernel_rfl) (by kernel_rfl) (by kernel_rfl) (fun _ _ _ h => h) (fun W n h => HST.out W _ h (below_drewN _ W n)) (Or.inl (Or.inl ⟨by rfl, ?_⟩)) hSd ?_
  rotate_left
  · intro W hSw; (try dsimp only at hSw); obtain ⟨-, q1, -, -, q4, q5, -, -, -, -, qa, qb, -, -⟩ := (HS0.out W).1 hSw; have hcv := bytes_str q1; obtain ⟨⟨e0, e1⟩, -⟩ := two_new _ _ _ q4; obtain ⟨⟨f0, f1⟩, -⟩ := two_new _ _ _ q5; have lm1 := qa.cells; have lm2 := qb.cells; clear q1 q4 q5 qa qb; first | (go_simp; done) | (go_simp; with_reducible rfl)
  try simp only [Act.put, List.setIfInBounds_toArray, List.set_cons_zero, List.set_cons_succ]
  refine wpAnyD_take (i := 49) (oi := ⟨_, _, _, _, _, _⟩) (v := ?_) rfl (by kernel_rfl) (by kernel_rfl) (by kernel_rfl) (by kernel_rfl) (fun _ _ _ h => h) (fun W n h => HST.out W _ h (below_drewN _ W n)) (Or.inl (Or.inl ⟨by rfl, ?_⟩)) hSd ?_
  rotate_left
  · intro W hSw; (try dsimp only at hSw); obtain ⟨-, q1, -, -, q4, q5, -, -, -, -, qa, qb, -, -⟩ := (HS0.out W).1 hSw; have hcv := bytes_str q1; obtain ⟨⟨e0, e1⟩, -⟩ := two_new _ _ _ q4; obtain ⟨⟨f0, f1⟩, -⟩ := two_new _ _ _ q5; have lm1 := qa.cells; have lm2 := qb.cells; clear q1 q4 q5 qa qb; first | (go_simp; done) | (go_simp; with_reducible rfl)
  try simp only [Act.put, List.setIfInBounds_toArray, List.set_cons_zero, List.set_cons_succ]
  refine wpAnyD_take (i := 50) (oi := ⟨_, _, _, _, _, _⟩) (v := ?_) rfl (by kernel_rfl) (by kernel_rfl) (by kernel_rfl) (by kernel_rfl) (fun _ _ _ h => h) (fun W n h => HST.out W _ h (below_drewN _ W n)) (Or.inl (Or.inl ⟨by rfl, ?_⟩)) hSd ?_
  rotate_left
  · intro W hSw; (try dsimp only at hSw); obtain ⟨-, q1, -, -, q4, q5, -, -, -, -, qa, qb, -, -⟩ := (HS0.out W).1 hSw; have hcv := bytes_str q1; obtain ⟨⟨e0, e1⟩, -⟩ := two_new _ _ _ q4; obtain ⟨⟨f0, f1⟩, -⟩ := two_new _ _ _ q5; have lm1 := qa.cells; have lm2 := qb.cells; clear q1 q4 q5 qa qb; first | (go_simp; done) | (go_simp; with_reducible rfl)
  try simp only [Act.put, List.setIfInBounds_toArray, List.set_cons_zero, List.set_cons_succ]
  refine wpAnyD_take (i := 51) (oi := ⟨_, _, _, _, _, _⟩) (v := ?_) rfl (by kernel_rfl) (by kernel_rfl) (by kernel_rfl) (by kernel_rfl) (fun _ _ _ h => h) (fun W n h => HST.out W _ h (below_drewN _ W n)) (Or.inl (Or.inl ⟨by rfl, ?_⟩)) hSd ?_
  rotate_left
  · intro W hSw; (try dsimp only at hSw); obtain ⟨-, q1, -, -, q4, q5, -, -, -, -, qa, qb, -, -⟩ := (HS0.out W).1 hSw; have hcv := bytes_str q1; obtain ⟨⟨e0, e1⟩, -⟩ := two_new _ _ _ q4; obtain ⟨⟨f0, f1⟩, -⟩ := two_new _ _ _ q5; have lm1 := qa.cells; have lm2 := qb.cells; clear q1 q4 q5 qa qb; first | (go_simp; done) | (go_simp; with_reducible rfl)
  try simp only [Act.put, List.setIfInBounds_toArray, List.set_cons_zero, List.set_cons_succ]
  refine wpAnyD_take (i := 52) (oi := ⟨_, _, _, _, _, _⟩) (v := ?_) rfl (by kernel_rfl) (by kernel_rfl) (by kernel_rfl) (by kernel_rfl) (fun _ _ _ h => h) (fun W n h => HST.out W _ h (below_drewN _ W n)) (Or.inl (Or.inl ⟨by rfl, ?_⟩)) hSd ?_
  rotate_left
  · intro W hSw; (try dsimp only at hSw); obtain ⟨-, q1, -, -, q4, q5, -, -, -, -, qa, qb, -, -⟩ := (HS0.out W).1 hSw; have hcv := bytes_str q1; obtain ⟨⟨e0, e1⟩, -⟩ := two_new _ _ _ q4; obtain ⟨⟨f0, f1⟩, -⟩ := two_new _ _ _ q5; have lm1 := qa.cells; have lm2 := qb.cells; clear q1 q4 q5 qa qb; first | (go_simp; done) | (go_simp; with_reducible rfl)
  try simp only [Act.put, List.setIfInBounds_toArray, List.set_cons_zero, List.set_cons_succ]
  refine wpAnyD_take (i := 53) (oi := ⟨_, _, _, _, _, _⟩) (v := ?_) rfl (by kernel_rfl) (by kernel_rfl) (by kernel_rfl) (by kernel_rfl) (fun _ _ _ h => h) (fun W n h => HST.out W _ h (below_drewN _ W n)) (Or.inl (Or.inl ⟨by rfl, ?_⟩)) hSd ?_
  rotate_left
  · intro W hSw; (try dsimp only at hSw); obtain ⟨-, q1, -, -, q4, q5, -, -, -, -, qa, qb, -, -⟩ := (HS0.out W).1 hSw; have hcv := bytes_str q1; obtain ⟨⟨e0, e1⟩, -⟩ := two_new _ _ _ q4; obtain ⟨⟨f0, f1⟩, -⟩ := two_new _ _ _ q5; have lm1 := qa.cells; have lm2 := qb.cells; clear q1 q4 q5 qa qb; first | (go_simp; done) | (go_simp; with_reducible rfl)
  try simp only [Act.put, List.setIfInBounds_toArray, List.set_cons_zero, List.set_cons_succ]
  refine wpAnyD_take (i := 54) (oi := ⟨_, _, _, _, _, _⟩) (v := ?_) rfl (by kernel_rfl) (by kernel_rfl) (by kernel_rfl) (by kernel_rfl) (fun _ _ _ h => h) (fun W n h => HST.out W _ h (below_drewN _ W n)) (Or.inl (Or.inl ⟨by rfl, ?_⟩)) hSd ?_
  rotate_left
  · intro W hSw; (try dsimp only at hSw); obtain ⟨-, q1, -, -, q4, q5, -, -, -, -, qa, qb, -, -⟩ := (HS0.out W).1 hSw; have hcv := bytes_str q1; obtain ⟨⟨e0, e1⟩, -⟩ := two_new _ _ _ q4; obtain ⟨⟨f0, f1⟩, -⟩ := two_new _ _ _ q5; have lm1 := qa.cells; have lm2 := qb.cells; clear q1 q4 q5 qa qb; first | (go_simp; done) | (go_simp; with_reducible rfl)
  try simp only [Act.put, List.setIfInBounds_toArray, List.set_cons_zero, List.set_cons_succ]
  refine wpAnyD_take (i := 55) (oi := ⟨_, _, _, _, _, _⟩) (v := ?_) rfl (by kernel_rfl) (by kernel_rfl) (by kernel_rfl) (by kernel_rfl) (fun _ _ _ h => h) (fun W n h => HST.out W _ h (below_drewN _ W n)) (Or.inl (Or.inl ⟨by rfl, ?_⟩)) hSd ?_
  rotate_left
  · intro W hSw; (try dsimp only at hSw); obtain ⟨-, q1, -, -, q4, q5, -, -, -, -, qa, qb, -, -⟩ := (HS0.out W).1 hSw; have hcv := bytes_str q1; obtain ⟨⟨e0, e1⟩, -⟩ := two_new _ _ _ q4; obtain ⟨⟨f0, f1⟩, -⟩ := two_new _ _ _ q5; have lm1 := qa.cells; have lm2 := qb.cells; clear q1 q4 q5 qa qb; first | (go_simp; done) | (go_simp; with_reducible rfl)
  try simp only [Act.put, List.setIfInBounds_toArray, List.set_cons_zero, List.set_cons_succ]
  refine wpAnyD_take (i := 56) (oi := ⟨_, _, _, _, _, _⟩) (v := ?_) rfl (by kernel_rfl) (by kernel_rfl) (by kernel_rfl) (by kernel_rfl) (fun _ _ _ h => h) (fun W n h => HST.out W _ h (below_drewN _ W n)) (Or.inl (Or.inl ⟨by rfl, ?_⟩)) hSd ?_
  rotate_left
  · intro W hSw; (try dsimp only at hSw); obtain ⟨-, q1, -, -, q4, q5, -, -, -, -, qa, qb, -, -⟩ := (HS0.out W).1 hSw; have hcv := bytes_str q1; obtain ⟨⟨e0, e1⟩, -⟩ := two_new _ _ _ q4; obtain ⟨⟨f0, f1⟩, -⟩ := two_new _ _ _ q5; have lm1 := qa.cells; have lm2 := qb.cells; clear q1 q4 q5 qa qb; first | (go_simp; done) | (go_simp; with_reducible rfl)
  try simp only [Act.put, List.setIfInBounds_toArray, List.set_cons_zero, List.set_cons_succ]
  refine wpAnyD_take (i := 57) (oi := ⟨_, _, _, _, _, _⟩) (v := ?_) rfl (by kernel_rfl) (by kernel_rfl) (by kernel_rfl) (by kernel_rfl) (fun _ _ _ h => h) (fun W n h => HST.out W _ h (below_drewN _ W n)) (Or.inl (Or.inl ⟨by rfl, ?_⟩)) hSd ?_
  rotate_left
  · intro W hSw; (try dsimp only at hSw); obtain ⟨-, q1, -, -, q4, q5, -, -, -, -, qa, qb, -, -⟩ := (HS0.out W).1 hSw; have hcv := bytes_str q1; obtain ⟨⟨e0, e1⟩, -⟩ := two_new _ _ _ q4; obtain ⟨⟨f0, f1⟩, -⟩ := two_new _ _ _ q5; have lm1 := qa.cells; have lm2 := qb.cells; clear q1 q4 q5 qa qb; first | (go_simp; done) | (go_simp; with_reducible rfl)
  try simp only [Act.put, List.setIfInBounds_toArray, List.set_cons_zero, List.set_cons_succ]
  refine wpAnyD_take (i := 58) (oi := ⟨_, _, _, _, _, _⟩) (v := ?_) rfl (by kernel_rfl) (by kernel_rfl) (by kernel_rfl) (by kernel_rfl) (fun _ _ _ h => h) (fun W n h => HST.out W _ h (below_drewN _ W n)) (Or.inl (Or.inl ⟨by rfl, ?_⟩)) hSd ?_
  rotate_left
  · intro W hSw; (try dsimp only at hSw); obtain ⟨-, q1, -, -, q4, q5, -, -, -, -, qa, qb, -, -⟩ := (HS0.out W).1 hSw; have hcv := bytes_str q1; obtain ⟨⟨e0, e1⟩, -⟩ := two_new _ _ _ q4; obtain ⟨⟨f0, f1⟩, -⟩ := two_new _ _ _ q5; have lm1 := qa.cells; have lm2 := qb.cells; clear q1 q4 q5 qa qb; first | (go_simp; done) | (go_simp; with_reducible rfl)
  try simp only [Act.put, List.setIfInBounds_toArray, List.set_cons_zero, List.set_cons_succ]
  refine wpAnyD_take (i := 59) (oi := ⟨_, _, _, _, _, _⟩) (v := ?_) rfl (by kernel_rfl) (by kernel_rfl) (by kernel_rfl) (by kernel_rfl) (fun _ _ _ h => h) (fun W n h => HST.out W _ h (below_drewN _ W n)) (Or.inl (Or.inl ⟨by rfl, ?_⟩)) hSd ?_
  rotate_left
  · intro W hSw; (try dsimp only at hSw); obtain ⟨-, q1, -, -, q4, q5, -, -, -, -, qa, qb, -, -⟩ := (HS0.out W).1 hSw; have hcv := bytes_str q1; obtain ⟨⟨e0, e1⟩, -⟩ := two_new _ _ _ q4; obtain ⟨⟨f0, f1⟩, -⟩ := two_new _ _ _ q5; have lm1 := qa.cells; have lm2 := qb.cells; clear q1 q4 q5 qa qb; first | (go_simp; done) | (go_simp; with_reducible rfl)
  try simp only [Act.put, List.setIfInBounds_toArray, List.set_cons_zero, List.set_cons_succ]
  refine wpAnyD_take (i := 60) (oi := ⟨_, _, _, _, _, _⟩) (v := ?_) rfl (by kernel_rfl) (by kernel_rfl) (by kernel_rfl) (by kernel_rfl) (fun _ _ _ h => h) (fun W n h => HST.out W _ h (below_drewN _ W n)) (Or.inl (Or.inl ⟨by rfl, ?_⟩)) hSd ?_
  rotate_left
  · intro W hSw; (try dsimp only at hSw); obtain ⟨-, q1, -, -, q4, q5, -, -, -, -, qa, qb, -, -⟩ := (HS0.out W).1 hSw; have hcv := bytes_str q1; obtain ⟨⟨e0, e1⟩, -⟩ := two_new _ _ _ q4; obtain ⟨⟨f0, f1⟩, -⟩ := two_new _ _ _ q5; have lm1 := qa.cells; have lm2 := qb.cells; clear q1 q4 q5 qa qb; first | (go_simp; done) | (go_simp; with_reducible rfl)
  try simp only [Act.put, List.setIfInBounds_toArray, List.set_cons_zero, List.set_cons_succ]
  refine wpAnyD_take (i := 61) (oi := ⟨_, _, _, _, _, _⟩) (v := ?_) rfl (by kernel_rfl) (by kernel_rfl) (by kernel_rfl) (by kernel_rfl) (fun _ _ _ h => h) (fun W n h => HST.out W _ h (below_drewN _ W n)) (Or.inl (Or.inl ⟨by rfl, ?_⟩)) hSd ?_
  rotate_left
  · intro W hSw; (try dsimp only at hSw); obtain ⟨-, q1, -, -, q4, q5, -, -, -, -, qa, qb, -, -⟩ := (HS0.out W).1 hSw; have hcv := bytes_str q1; obtain ⟨⟨e0, e1⟩, -⟩ := two_new _ _ _ q4; obtain ⟨⟨f0, f1⟩, -⟩ := two_new _ _ _ q5; have lm1 := qa.cells; have lm2 := qb.cells; clear q1 q4 q5 qa qb; first | (go_simp; done) | (go_simp; with_reducible rfl)
  try simp only [Act.put, List.setIfInBounds_toArray, List.set_cons_zero, List.set_cons_succ]
  refine wpAnyD_take (i := 62) (oi := ⟨_, _, _, _, _, _⟩) (v := ?_) rfl (by kernel_rfl) (by kernel_rfl) (by kernel_rfl) (by kernel_rfl) (fun _ _ _ h => h) (fun W n h => HST.out W _ h (below_drewN _ W n)) (Or.inl (Or.inl ⟨by rfl, ?_⟩)) hSd ?_
  rotate_left
  · intro W hSw; (try dsimp only at hSw); obtain ⟨-, q1, -, -, q4, q5, -, -, -, -, qa, qb, -, -⟩ := (HS0.out W).1 hSw; have hcv := bytes_str q1; obtain ⟨⟨e0, e1⟩, -⟩ := two_new _ _ _ q4; obtain ⟨⟨f0, f1⟩, -⟩ := two_new _ _ _ q5; have lm1 := qa.cells; have lm2 := qb.cells; clear q1 q4 q5 qa qb; first | (go_simp; done) | (go_simp; with_reducible rfl)
  try simp only [Act.put, List.setIfInBounds_toArray, List.set_cons_zero, List.set_cons_succ]
  clear hSd
  refine wpAnyD_one (i := 63) (o := ⟨_, _, _, _, _, _⟩) (by kernel_rfl) (by decide) rfl (fun nq K hK0 => ?_)
  have hK := Lib.hid hK0
  clear hK0
  have HSc := Lib.hid (HST.out _ _ HSc.out (below_drewN _ we43 nq))
  generalize we43.drewN nq = wd63 at *
  go_simp
  refine (HQ63.out wd63 HSc.out).mono ?_
  rintro e we ⟨rfl, nz, rfl⟩
  have HSc := Lib.hid (HST.out _ _ HSc.out (below_drewN _ wd63 nz))
  generalize wd63.drewN nz = we63 at *
  try go_wp2_with fail
  refine hK.out _ _ HSc.out ?_
  clear hK K
  try simp only [Act.put, List.setIfInBounds_toArray, List.set_cons_zero, List.set_cons_succ]
  have hSd := HSc.out
  refine wpAnyD_take (i := 64) (oi := ⟨_, _, _, _, _, _⟩) (v := ?_) rfl (by kernel_rfl) (by kernel_rfl) (by kernel_rfl) (by kernel_rfl) (fun _ _ _ h => h) (fun W n h => HST.out W _ h (below_drewN _ W n)) (Or.inl (Or.inl ⟨by rfl, ?_⟩)) hSd ?_
  rotate_left
  · intro W hSw; (try dsimp only at hSw); obtain ⟨-, q1, -, -, q4, q5, -, -, -, -, qa, qb, -, -⟩ := (HS0.out W).1 hSw; have hcv := bytes_str q1; obtain ⟨⟨e0, e1⟩, -⟩ := two_new _ _ _ q4; obtain ⟨⟨f0, f1⟩, -⟩ := two_new _ _ _ q5; have lm1 := qa.cells; have lm2 := qb.cells; clear q1 q4 q5 qa qb; first | (go_simp; done) | (go_simp; with_reducible rfl)
  try simp only [Act.put, List.setIfInBounds_toArray, List.set_cons_zero, List.set_cons_succ]
  refine wpAnyD_take (i := 65) (oi := ⟨_, _, _, _, _, _⟩) (v := ?_) rfl (by kernel_rfl) (by kernel_rfl) (by kernel_rfl) (by kernel_rfl) (fun _ _ _ h => h) (fun W n h => HST.out W _ h (below_drewN _ W n)) (Or.inl (Or.inl ⟨by rfl, ?_⟩)) hSd ?_
  rotate_left
  · intro W hSw; (try dsimp only at hSw); obtain ⟨-, q1, -, -, q4, q5, -, -, -, -, qa, qb, -, -⟩ := (HS0.out W).1 hSw; have hcv := bytes_str q1; obtain ⟨⟨e0, e1⟩, -⟩ := two_new _ _ _ q4; obtain ⟨⟨f0, f1⟩, -⟩ := two_new _ _ _ q5; have lm1 := qa.cells; have lm2 := qb.cells; clear q1 q4 q5 qa qb; first | (go_simp; done) | (go_simp; with_reducible rfl)
  try simp only [Act.put, List.setIfInBounds_toArray, List.set_cons_zero, List.set_cons_succ]
  refine wpAnyD_take (i := 66) (oi := ⟨_, _, _, _, _, _⟩) (v := ?_) rfl (by kernel_rfl) (by kernel_rfl) (by kernel_rfl) (by kernel_rfl) (fun _ _ _ h => h) (fun W n h => HST.out W _ h (below_drewN _ W n)) (Or.inl (Or.inl ⟨by rfl, ?_⟩)) hSd ?_
  rotate_left
  · intro W hSw; (try dsimp only at hSw); obtain ⟨-, q1, -, -, q4, q5, -, -, -, -, qa, qb, -, -⟩ := (HS0.out W).1 hSw; have hcv := bytes_str q1; obtain ⟨⟨e0, e1⟩, -⟩ := two_new _ _ _ q4; obtain ⟨⟨f0, f1⟩, -⟩ := two_new _ _ _ q5; have lm1 := qa.cells; have lm2 := qb.cells; clear q1 q4 q5 qa qb; first | (go_simp; done) | (go_simp; with_reducible rfl)
  try simp only [Act.put, List.setIfInBounds_toArray, List.set_cons_zero, List.set_cons_succ]
  refine wpAnyD_take (i := 67) (oi := ⟨_, _, _, _, _, _⟩) (v := ?_) rfl (by kernel_rfl) (by kernel_rfl) (by kernel_rfl) (by kernel_rfl) (fun _ _ _ h => h) (fun W n h => HST.out W _ h (below_drewN _ W n)) (Or.inl (Or.inl ⟨by rfl, ?_⟩)) hSd ?_
  rotate_left
  · intro W hSw; (try dsimp only at hSw); obtain ⟨-, q1, -, -, q4, q5, -, -, -, -, qa, qb, -, -⟩ := (HS0.out W).1 hSw; have hcv := bytes_str q1; obtain ⟨⟨e0, e1⟩, -⟩ := two_new _ _ _ q4; obtain ⟨⟨f0, f1⟩, -⟩ := two_new _ _ _ q5; have lm1 := qa.cells; have lm2 := qb.cells; clear q1 q4 q5 qa qb; first | (go_simp; done) | (go_simp; with_reducible rfl)
  try simp only [Act.put, List.setIfInBounds_toArray, List.set_cons_zero, List.set_cons_succ]
  refine wpAnyD_take (i := 68) (oi := ⟨_, _, _, _, _, _⟩) (v := ?_) rfl (by kernel_rfl) (by kernel_rfl) (by kernel_rfl) (by kernel_rfl) (fun _ _ _ h => h) (fun W n h => HST.out W _ h (below_drewN _ W n)) (Or.inl (Or.inl ⟨by rfl, ?_⟩)) hSd ?_
  rotate_left
  · intro W hSw; (try dsimp only at hSw); obtain ⟨-, q1, -, -, q4, q5, -, -, -, -, qa, qb, -, -⟩ := (HS0.out W).1 hSw; have hcv := bytes_str q1; obtain ⟨⟨e0, e1⟩, -⟩ := two_new _ _ _ q4; obtain ⟨⟨f0, f1⟩, -⟩ := two_new _ _ _ q5; have lm1 := qa.cells; have lm2 := qb.cells; clear q1 q4 q5 qa qb; first | (go_simp; done) | (go_simp; with_reducible rfl)
  try simp only [Act.put, List.setIfInBounds_toArray, List.set_cons_zero, List.set_cons_succ]
  refine wpAnyD_take (i := 69) (oi := ⟨_, _, _, _, _, _⟩) (v := ?_) rfl (by kernel_rfl) (by kernel_rfl) (by kernel_rfl) (by kernel_rfl) (fun _ _ _ h => h) (fun W n h => HST.out W _ h (below_drewN _ W n)) (Or.inl (Or.inl ⟨by rfl, ?_⟩)) hSd ?_
  rotate_left
  · intro W hSw; (try dsimp only at hSw); obtain ⟨-, q1, -, -, q4, q5, -, -, -, -, qa, qb, -, -⟩ := (HS0.out W).1 hSw; have hcv := bytes_str q1; obtain ⟨⟨e0, e1⟩, -⟩ := two_new _ _ _ q4; obtain ⟨⟨f0, f1⟩, -⟩ := two_new _ _ _ q5; have lm1 := qa.cells; have lm2 := qb.cells; clear q1 q4 q5 qa qb; first | (go_simp; done) | (go_simp; with_reducible rfl)
  try simp only [Act.put, List.setIfInBounds_toArray, List.set_cons_zero, List.set_cons_succ]
  clear hSd
  refine wpAnyD_last (by kernel_rfl) (fun nd => ?_)
  refine wpOp_one rfl (by rfl) ?_
  have HSc := Lib.hid (HST.out _ _ HSc.out (below_drewN _ we63 nd))
  generalize we63.drewN nd = wz at *
  go_simp
  go_wp2_with fail
  go_ret
  exact ⟨rfl, HFIN.out _ HSc.out⟩
end Go.Proofs.Ytdolonkeanlaoaa
