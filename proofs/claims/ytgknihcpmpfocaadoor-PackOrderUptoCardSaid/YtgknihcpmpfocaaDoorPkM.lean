/- The walks of Has, empty and note. -/
import Derived.Test.YtgknihcpmpfocaaDoorPkKL
import Derived.Test.YtgknihcpmpfocaaDoorPkF
import Derived.BigRegion
namespace Go.Proofs.YtgknihcpmpfocaaDoor
open Go.RowKit Go.Maps
attribute [local simp high] id_size id_zero

set_option maxRecDepth 100000 in
set_option maxHeartbeats 4000000 in
theorem has_any {B : Nat} {w : World} {bp bf bm n : Nat} {D : DataW Unit} {vi : Value} {x : Nm} {I : List (List UInt8)} {pl : List UInt8 → Option (Nat × Nat)} (h : PackAt B w bp bf bm n D vi x I pl) (X : List UInt8) (hX : X.length = 32) :
    Calls Tryd.prog 24 #[.pointer (some ⟨bp, 0, none⟩), .agg (bv X).toArray] w fun e w' => e = .returned (.bool (pl X).isSome) ∧ Below w.heap.size w w' := by
  have hlt := h.lt
  have hb1 := (Below.refl w.heap.size w).alloc (Nat.le_refl _) (.cells (bv X).toArray 44)
  have h1 := h.kept (w' := w.alloc (.cells (bv X).toArray 44)) (fun k hk => Below.heap_alloc _ _ _ (hlt k hk).2)
  have i1 : IDAt (w.alloc (.cells (bv X).toArray 44)) w.heap.size X := ⟨hX, new_five w _ _⟩
  have hz1 : (w.alloc (.cells (bv X).toArray 44)).heap.size = w.heap.size + 1 := by simp
  have HB1 := Lib.hid hb1
  have H1 := Lib.hid h1
  have HI := Lib.hid i1
  have zx : (bv X).length = n32 := by rw [bv_len, hX]; rfl
  have HX := Lib.hid hX
  obtain ⟨t, ht⟩ : ∃ t, (pl X).isSome = t := ⟨_, rfl⟩
  rw [ht]
  have HT := Lib.hid ht
  clear hb1 h1 i1 hX h hlt ht
  go_enter Tryd.func24, Tryd.ntmps24
  go_upto_region 1 with fail
  generalize w.alloc (.cells (bv X).toArray 44) = w1 at *
  have hk0 : ∀ W : World, (∀ k, k < w1.heap.size → W.heap[k]? = w1.heap[k]?) → W.cell? ⟨bp, 3, none⟩ = some (.map (some bm)) ∧ (loadCellsFrom ⟨w.heap.size, 0, none⟩ 0 n32 #[]).run Tryd.prog W = .ok (bv X).toArray W ∧ (Instr.lookup 74 (.map (some bm)) (.agg (bv X).toArray) true).run Tryd.prog W = .ok (.tuple #[placeV ((pl X).getD zeroPlace), .bool (pl X).isSome]) W := fun W hW => by
    have h2 := H1.out.kept (w' := W) (fun k hk => hW k (H1.out.lt k hk).2)
    exact ⟨h2.cell.2.2.2, (HI.out.kept (hW _ (by omega))).cells, h2.map.look HX.out⟩
  obtain ⟨p, hp⟩ : ∃ p, (pl X).getD zeroPlace = p := ⟨_, rfl⟩
  rw [hp, HT.out] at hk0
  unfold placeV at hk0
  obtain ⟨a1, a2, a3⟩ := hk0 w1.drew (fun _ _ => rfl)
  obtain ⟨b1, b2, b3⟩ := hk0 (w1.alloc (.cells #[.int .i64 0, .int .i64 0] 62)).drew (fun k hk => Below.heap_alloc w1 _ k hk)
  clear hk0 hp
  go_region
  all_goals (go_wp2_with fail)
  all_goals (go_ret)
  all_goals exact ⟨rfl, (HB1.out.alloc (by omega) _).drew⟩
theorem fold_at : ∀ (l : List Value) (k : Nat) (A : Array Value) (j : Nat), (List.foldl (fun (cs : Array Value) (x : Value × Nat) => cs.setIfInBounds x.2 x.1) A (l.zipIdx k))[j]? = if k ≤ j ∧ j < k + l.length ∧ j < A.size then l[j - k]? else A[j]?
  | [], k, A, j => by rw [if_neg (by simp; omega)]; rfl
  | v :: l, k, A, j => by
    rw [List.zipIdx_cons, List.foldl_cons, fold_at l (k + 1) _ j, Array.size_setIfInBounds, List.length_cons]
    by_cases h : k = j
    · subst h
      rw [if_neg (by omega), Array.getElem?_setIfInBounds, if_pos rfl]
      by_cases h2 : k < A.size
      · rw [if_pos h2, if_pos (by omega), Nat.sub_self]; rfl
      · rw [if_neg h2, if_neg (by omega), Array.getElem?_eq_none (by omega)]
    · rw [Array.getElem?_setIfInBounds, if_neg h]
      by_cases h2 : k + 1 ≤ j ∧ j < k + 1 + l.length ∧ j < A.size
      · rw [if_pos h2, if_pos (by omega)]
        obtain ⟨d, rfl⟩ : ∃ d, j = k + 1 + d := ⟨j - (k + 1), by omega⟩
        rw [show k + 1 + d - (k + 1) = d by omega, show k + 1 + d - k = d + 1 by omega, List.getElem?_cons_succ]
      · rw [if_neg h2, if_neg (by omega)]
theorem build_ids {F : List Value} (hF : F.length = n32) (g : Nat → Value) : List.foldl (fun (cs : Array Value) (x : Value × Nat) => cs.setIfInBounds x.2 x.1) (Array.map g (Array.range n32)) F.zipIdx = F.toArray := by
  have h1 : (Array.map g (Array.range n32)).size = n32 := by rw [Array.size_map, Array.size_range]
  generalize Array.map g (Array.range n32) = A at *
  apply Array.ext_getElem?
  intro j
  rw [fold_at, Nat.zero_add, Nat.sub_zero]
  by_cases h : j < n32
  · rw [if_pos ⟨Nat.zero_le _, by omega, by omega⟩]; simp
  · rw [if_neg (fun x => h (by omega)), Array.getElem?_eq_none (by omega), Array.getElem?_eq_none (by rw [List.size_toArray]; omega)]
theorem id_info : (Tryd.prog.info? 44).map (fun i => (i.zero, i.size, i.bytes)) = some (some (.agg (bv zeros).toArray), 32, 32) := by kernel_rfl
theorem srcI_one (w : World) (X : List UInt8) (hX : X.length = 32) : Src Tryd.prog 32 40 (.slice (some ⟨w.heap.size, 0, none⟩) 1 1) 1 (bv X) (w.alloc (.cells (bv X).toArray 44)).drew := by
  refine Src.ofSlice _ Tryd.underlying40 _ _ 1 _ (by rw [bv_len, hX]) (fun j u hj => ?_) (fun u hu => bv_one X u hu)
  rw [Addr.add_mid, Nat.zero_add, cell_of_row (w.alloc (.cells (bv X).toArray 44)).drew _ _ _ _ _ (new_five w (bv X).toArray 44)]
  simpa using hj
/-- What note may change. -/
def NoteP (B : Nat) (w : World) (bp bf bm n : Nat) (vi : Value) (x : Nm) (I : List (List UInt8)) (pl : List UInt8 → Option (Nat × Nat)) (e : Ending) (w' : World) : Prop :=
  e = .returned (.tuple #[]) ∧ ∃ D' vi', PackAt B w' bp bf bm n D' vi' x I pl ∧ (∀ k, vi'.ownBlock = some k → vi.ownBlock = some k ∨ w.heap.size ≤ k) ∧ Far (PkT bp bm vi) w w'
theorem pack_noted {B : Nat} {w3 w4 w5 w7 : World} {bp bf bm n : Nat} {D D' : DataW Unit} {vi v5 : Value} {x : Nm} {I : List (List UInt8)} {pl : List UInt8 → Option (Nat × Nat)} {X : List UInt8} {p : Nat × Nat}
    (h : PackAt B w3 bp bf bm n D vi x I pl) (h4 : ∀ k, k < w3.heap.size → w4.heap[k]? = w3.heap[k]?) (hz : w3.heap.size ≤ w4.heap.size) (hg : Grew w4 w5 vi v5)
    (hown5 : w5.ownsRow B 44 32 v5 (I.length + 1) (idsV I ++ bv X)) (hm : PMap w7 bm (n + 1) D' (noteP pl X p)) (h7 : ∀ k, k < w5.heap.size → k ≠ bm → w7.heap[k]? = (w5.setCell ⟨bp, 2, none⟩ v5).heap[k]?) (hp : pl X = none) :
    PackAt B w7 bp bf bm (n + 1) D' v5 x (noteI pl I X) (noteP pl X p) ∧ (∀ k, v5.ownBlock = some k → vi.ownBlock = some k ∨ w3.heap.size ≤ k) ∧ ∀ k, k < w3.heap.size → ¬ PkT bp bm vi k → w7.heap[k]? = w3.heap[k]? := by
  have hlt := h.lt
  have hsame : ∀ k, k < w3.heap.size → vi.ownBlock ≠ some k → w5.heap[k]? = w3.heap[k]? := fun k hk hn => (hg.gb.block k (by omega) (fun e => hn e.symm)).trans (h4 k hk)
  have hset : ∀ k, k ≠ bp → (w5.setCell ⟨bp, 2, none⟩ v5).heap[k]? = w5.heap[k]? := fun k hk => heap_setCell_other _ _ _ _ (by simpa using hk)
  have hown : ∀ k, v5.ownBlock = some k → vi.ownBlock = some k ∨ w3.heap.size ≤ k := fun k hk => by
    rcases hg.own k hk with h1 | h1
    · exact Or.inl h1
    · exact Or.inr (by omega)
  have hne : ∀ k, v5.ownBlock = some k → k ≠ bp ∧ k ≠ bm := fun k hk => by
    rcases hown k hk with h1 | h1
    · exact h.own k h1
    · have a := hlt bp (Or.inl rfl)
      have b := hlt bm (Or.inr (Or.inl rfl))
      exact ⟨by omega, by omega⟩
  have hbp := (hlt bp (Or.inl rfl)).2
  have hrow5 : w5.heap[bp]? = _ := (hsame bp hbp (fun e => (h.own bp e).1 rfl)).trans h.row
  have hz5 := hg.gb.size
  refine ⟨⟨?_, ?_, hm, h.ne, hne, h.big⟩, hown, fun k hk hn => ?_⟩
  · rw [h7 bp (by omega) h.ne, heap_setCell_same w5 bp 2 _ _ _ hrow5]; rfl
  · unfold noteI
    rw [hp]
    show w7.ownsRow B _ 32 v5 (I ++ [X]).length (idsV (I ++ [X]))
    rw [List.length_append, idsV_snoc]
    exact row_kept hown5 (fun k hk => (h7 k (World.ownsRow.lt hown5 k hk).2 (hne k hk).2).trans (hset k (hne k hk).1))
  · exact (h7 k (by omega) (fun e => hn (Or.inr (Or.inl e)))).trans ((hset k (fun e => hn (Or.inl e))).trans (hsame k hk (fun e => hn (Or.inr (Or.inr e)))))
set_option maxRecDepth 100000 in
set_option maxHeartbeats 4000000 in
theorem note_any {B : Nat} {w : World} {bp bf bm n : Nat} {D : DataW Unit} {vi : Value} {x : Nm} {I : List (List UInt8)} {pl : List UInt8 → Option (Nat × Nat)} (h : PackAt B w bp bf bm n D vi x I pl) (hB : B ≤ w.heap.size) (X : List UInt8) (hX : X.length = 32) (p : Nat × Nat) (hn : n ≤ 1073741824) (hIl : I.length ≤ 1073741824) :
    Calls Tryd.prog 36 #[.pointer (some ⟨bp, 0, none⟩), .agg (bv X).toArray, .agg #[.int .i64 (p.1 : Int), .int .i64 (p.2 : Int)]] w (NoteP B w bp bf bm (n + 1) vi x (noteI pl I X) (noteP pl X p)) := by
  obtain ⟨p1, p2⟩ := p
  have hlt := h.lt
  have hz2 : ((w.alloc (.cells (bv X).toArray 44)).alloc (.cells #[.int .i64 (p1 : Int), .int .i64 (p2 : Int)] 62)).heap.size = w.heap.size + 2 := by simp
  have hal : ∀ q, q < w.heap.size → ((w.alloc (.cells (bv X).toArray 44)).alloc (.cells #[.int .i64 (p1 : Int), .int .i64 (p2 : Int)] 62)).heap[q]? = w.heap[q]? := fun q hq => (Below.heap_alloc _ _ q (by simp; omega)).trans (Below.heap_alloc w _ q hq)
  have hb2 := ((Below.refl w.heap.size w).alloc (Nat.le_refl _) (.cells (bv X).toArray 44)).alloc (by simp) (.cells #[.int .i64 (p1 : Int), .int .i64 (p2 : Int)] 62)
  have h2 := h.kept (w' := (w.alloc (.cells (bv X).toArray 44)).alloc (.cells #[.int .i64 (p1 : Int), .int .i64 (p2 : Int)] 62)) (fun k hk => hal k (hlt k hk).2)
  have i2 : IDAt ((w.alloc (.cells (bv X).toArray 44)).alloc (.cells #[.int .i64 (p1 : Int), .int .i64 (p2 : Int)] 62)) w.heap.size X := ⟨hX, (Below.heap_alloc _ _ _ (by simp)).trans (new_five w _ _)⟩
  have hnew := new_five (w.alloc (.cells (bv X).toArray 44)) #[.int .i64 (p1 : Int), .int .i64 (p2 : Int)] 62
  rw [World.size_alloc] at hnew
  have zx : (bv X).length = n32 := by rw [bv_len, hX]; rfl
  have HX := Lib.hid hX
  have HB2 := Lib.hid hb2
  have HLT := Lib.hid hlt
  have H2 := Lib.hid h2
  have H := Lib.hid h
  have HI2 := Lib.hid i2
  have HNEW := Lib.hid hnew
  have HBW := Lib.hid hB
  clear hlt hb2 h2 i2 hnew h hal hX hB
  go_enter Tryd.func36, Tryd.ntmps36
  go_upto_region 1 with fail
  generalize (w.alloc (.cells (bv X).toArray 44)).alloc (.cells #[.int .i64 (p1 : Int), .int .i64 (p2 : Int)] 62) = w2 at *
  have c2 := HI2.out.cells
  go_wp2_with fail
  refine (has_any H2.out X HX.out).mono ?_
  rintro e w3 ⟨rfl, hb3⟩
  have hz3 := hb3.size
  have H3 := Lib.hid (H2.out.kept (w' := w3) (fun k hk => hb3.block k (H2.out.lt k hk).2))
  have HI3 := Lib.hid (HI2.out.kept (hb3.block _ (by omega)))
  have HN3 := Lib.hid ((hb3.block _ (by omega)).trans HNEW.out)
  have HB3 := Lib.hid (HB2.out.trans (hb3.mono (by omega)))
  clear hb3 c2
  cases hp : pl X with
  | some q =>
    have HP := Lib.hid hp
    have hs : (some q : Option (Nat × Nat)).isSome = true := rfl
    clear hp
    go_wp2_with fail
    go_end0
    refine ⟨rfl, D, vi, ?_, fun k hk => Or.inl hk, ⟨HB3.out.os, HB3.out.tape, HB3.out.output, HB3.out.size, fun k hk _ => HB3.out.block k hk⟩⟩
    have e1 : noteI pl I X = I := by unfold noteI; rw [HP.out]; rfl
    have e2 : noteP pl X (p1, p2) = pl := by funext y; unfold noteP; rw [HP.out]; rfl
    rw [e1, e2]
    have h3 := H3.out
    exact ⟨h3.row, h3.ids, ⟨h3.map.own.mono (Nat.le_succ n), h3.map.at_⟩, h3.ne, h3.own, h3.big⟩
  | none =>
    have HP := Lib.hid hp
    have hs : (none : Option (Nat × Nat)).isSome = false := rfl
    clear hp
    obtain ⟨i0, hi, hz0, hz1, hz2q⟩ := info_parts id_info
    go_upto_region 2 with fail
    have hkk : ∀ W : World, (∀ k, k < w3.heap.size → W.heap[k]? = w3.heap[k]?) → W.cell? ⟨bp, 2, none⟩ = some vi ∧ (loadCellsFrom ⟨w.heap.size, 0, none⟩ 0 n32 #[]).run Tryd.prog W = .ok (bv X).toArray W := fun W hW =>
      ⟨(H3.out.kept (w' := W) (fun k hk => hW k (H3.out.lt k hk).2)).cell.2.2.1, (HI3.out.kept (hW _ (by omega))).cells⟩
    have hbi := fun g => build_ids (F := bv X) zx g
    obtain ⟨a1, a2⟩ := hkk w3.drew (fun _ _ => rfl)
    obtain ⟨b1, b2⟩ := hkk (w3.alloc (.cells (bv X).toArray 44)).drew (fun k hk => Below.heap_alloc w3 _ k hk)
    have hnl : (16777216 < n32) = False := by unfold n32; simp
    have HK5 : Hid (∀ (w5 : World) (v5 : Value), Grew (w3.alloc (.cells (bv X).toArray 44)).drew w5 vi v5 → w5.cell? ⟨bp, 2, none⟩ = some vi ∧ w5.frozen? ⟨bp, 2, none⟩ = false) := Lib.hid (fun w5 v5 hg => by
      have hlt := (H3.out.lt bp (Or.inl rfl)).2
      have h5 : w5.heap[bp]? = _ := (hg.gb.block bp (by show bp < (w3.alloc _).heap.size; simp; omega) (fun e => (H3.out.own bp e.symm).1 rfl)).trans ((Below.heap_alloc w3 _ bp hlt).trans H3.out.row)
      exact ⟨(cell_of_row _ _ _ _ _ _ h5).trans rfl, by unfold World.frozen?; rw [h5]; simp⟩)
    clear hkk
    go_region_law
      ((refine step_own_src _ (by rfl) _ _ 40 40 (by rfl) B 44 i0 (.agg (bv zeros).toArray) 32 32 Tryd.underlying40 hi hz0 hz1 hz2q (by rfl) (by decide) _ _ _ (by rfl) (World.ownsRow.alloc H3.out.ids _) _ 1 (bv X) (by rfl) (srcI_one _ X HX.out) (by unfold maxLen; omega) (by omega) (by simp; have := HBW.out; omega) ?_; intro v5 w5 hown5 hg5; obtain ⟨a5, cc5, rfl⟩ := row_shape_any hown5; obtain ⟨s1, s2⟩ := HK5.out _ _ hg5))
    all_goals
      have HO5 := Lib.hid hown5
      have HG5 := Lib.hid hg5
      clear hown5 hg5 s1 s2 a1 a2 b1 b2 hbi hnl
      go_upto_region 3 with fail
      generalize hw6 : w5.setCell ⟨bp, 2, none⟩ (.slice a5 (I.length + 1) cc5) = w6 at *
      have HW6 := Lib.hid hw6
      clear hw6
      have hk6 : ∀ k, k ≠ bp → vi.ownBlock ≠ some k → k < w3.heap.size → w6.heap[k]? = w3.heap[k]? := fun k h1 h2 h3 => by
        rw [← HW6.out, heap_setCell_other _ _ _ _ (by simpa using h1)]
        exact (HG5.out.gb.block k (by show k < (w3.alloc _).heap.size; simp; omega) (fun e => h2 e.symm)).trans (Below.heap_alloc w3 _ k h3)
      have hlb := fun k (hk : vi.ownBlock = some k) => (HLT.out k (Or.inr (Or.inr hk))).2
      have hlp := (HLT.out bp (Or.inl rfl)).2
      have hlm := (HLT.out bm (Or.inr (Or.inl rfl))).2
      have HI6 := Lib.hid (HI3.out.kept (hk6 w.heap.size (by omega) (fun e => by have := hlb _ e; omega) (by omega)))
      have HN6 := Lib.hid ((hk6 (w.heap.size + 1) (by omega) (fun e => by have := hlb _ e; omega) (by omega)).trans HN3.out)
      have hrow6 : w6.heap[bp]? = some (.cells #[.pointer (some ⟨bf, 0, none⟩), .string ⟨x.toArray⟩, .slice a5 (I.length + 1) cc5, .map (some bm)] 76 (0, 0)) := by
        have h5 : w5.heap[bp]? = _ := (HG5.out.gb.block bp (by show bp < (w3.alloc _).heap.size; simp; omega) (fun e => (H3.out.own bp e.symm).1 rfl)).trans ((Below.heap_alloc w3 _ bp (by omega)).trans H3.out.row)
        rw [← HW6.out, heap_setCell_same w5 bp 2 _ _ _ h5]; rfl
      have HM6 := Lib.hid (H3.out.map.kept (w' := w6) (hk6 bm (fun e => H3.out.ne e.symm) (fun e => (H3.out.own _ e).2 rfl) (by omega)))
      have e3 : w6.drew.cell? ⟨bp, 3, none⟩ = some (.map (some bm)) := (cell_of_row w6.drew _ _ _ _ _ hrow6).trans rfl
      have e4 : (loadCellsFrom ⟨w.heap.size, 0, none⟩ 0 n32 #[]).run Tryd.prog w6.drew = .ok (bv X).toArray w6.drew := (HI6.out.kept (w' := w6.drew) rfl).cells
      have e5 : w6.drew.cell? ⟨w.heap.size + 1, 0, none⟩ = some (.int .i64 (p1 : Int)) := (cell_of_row w6.drew _ _ _ _ _ HN6.out).trans rfl
      have e6 : w6.drew.cell? ⟨w.heap.size + 1, 1, none⟩ = some (.int .i64 (p2 : Int)) := (cell_of_row w6.drew _ _ _ _ _ HN6.out).trans rfl
      clear hk6 hlb hlp hlm hrow6
      go_still_tail 6, (by kernel_rfl)
      change wpList _ _ _ _ _ w6.drew
      have hown6 := (HM6.out.kept (w' := w6.drew) rfl).own
      have hkey := id_key HX.out
      go_wp2_with (at_mapUpdate; refine wpList_mapUpdate_own _ rfl _ _ _ 74 rfl 44 62 idKey Tryd.underlying74 placeR bm n D rfl hown6 (by unfold maxLen; omega) _ _ _ rfl rfl hkey (placeD (p1, p2)) [] (placeR_of (p1, p2)) ?_; intro w7 hown7 hg7; have HO7 := Lib.hid hown7; have HG7 := Lib.hid hg7; clear hown7 hg7)
      go_end0
      have hN := pack_noted (p := (p1, p2)) H3.out (w4 := (w3.alloc (.cells (bv X).toArray 44)).drew) (fun k hk => Below.heap_alloc w3 _ k hk) (by show _ ≤ (w3.alloc _).heap.size; simp) HG5.out HO5.out ((HM6.out.kept (w' := w6.drew) rfl).put HP.out (p1, p2) HO7.out) (fun k hk hne => by
        rw [HW6.out]
        exact HG7.out.block k (by show k < w6.heap.size; rw [← HW6.out]; simpa using hk) (fun e => hne (by injection e))) HP.out
      obtain ⟨n1, n2, n3⟩ := hN
      have hz6 : w6.heap.size = w5.heap.size := by rw [← HW6.out]; simp
      have hz7 : w6.heap.size ≤ w7.heap.size := HG7.out.size
      have hz5 : (w3.alloc (.cells (bv X).toArray 44)).heap.size ≤ w5.heap.size := HG5.out.gb.size
      have hza : (w3.alloc (.cells (bv X).toArray 44)).heap.size = w3.heap.size + 1 := by simp
      have o6 : w6.os = w5.os ∧ w6.tape = w5.tape ∧ w6.output = w5.output := by rw [← HW6.out]; exact ⟨rfl, rfl, rfl⟩
      refine ⟨rfl, _, _, n1, fun k hk => ?_, ⟨?_, ?_, ?_, by omega, fun k hk hn => ?_⟩⟩
      · rcases n2 k hk with h1 | h1
        · exact Or.inl h1
        · exact Or.inr (by omega)
      · exact HG7.out.os.trans (o6.1.trans (HG5.out.gb.os.trans HB3.out.os))
      · exact HG7.out.tape.trans (o6.2.1.trans (HG5.out.gb.tape.trans HB3.out.tape))
      · exact HG7.out.output.trans (o6.2.2.trans (HG5.out.gb.output.trans HB3.out.output))
      · exact (n3 k (by omega) hn).trans (HB3.out.block k hk)
end Go.Proofs.YtgknihcpmpfocaaDoor
