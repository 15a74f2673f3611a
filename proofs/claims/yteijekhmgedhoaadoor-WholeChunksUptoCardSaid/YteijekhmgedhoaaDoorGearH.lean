/- Chunks of one's own, each in a block of its own; the walks of Clone and Split. -/
import Derived.Test.YteijekhmgedhoaaDoorGearG
namespace Go.Proofs.YteijekhmgedhoaaDoor
open Go.RowKit

/-- The chunks. -/
def chunksL (least most bits : Nat) (l : List UInt8) : List (List UInt8) := if _h : l = [] then [] else l.take (nextLen least most bits l) :: chunksL least most bits (l.drop (nextLen least most bits l))
termination_by l.length
decreasing_by
  have h1 := nextLen_pos least most bits l
  have h2 : 0 < l.length := List.length_pos_iff.2 _h
  rw [List.length_drop]; omega
theorem chunksL_cons {least most bits : Nat} {l : List UInt8} (h : l ≠ []) : chunksL least most bits l = l.take (nextLen least most bits l) :: chunksL least most bits (l.drop (nextLen least most bits l)) := by rw [chunksL, dif_neg h]
theorem chunksL_nil (least most bits : Nat) : chunksL least most bits [] = [] := by rw [chunksL, dif_pos rfl]
theorem chunks_len (least most bits : Nat) : ∀ (n : Nat) (l : List UInt8), l.length ≤ n → (chunksL least most bits l).map List.length = cutL least most bits l
  | 0, l, h => by
    obtain rfl : l = [] := List.length_eq_zero_iff.1 (by omega)
    rw [chunksL_nil, cutL_nil]; rfl
  | n + 1, l, h => by
    by_cases hl : l = []
    · subst hl; rw [chunksL_nil, cutL_nil]; rfl
    · have h1 := nextLen_pos least most bits l
      have h2 := nextLen_le least most bits l hl
      rw [chunksL_cons hl, cutL_cons hl, List.map_cons, chunks_len least most bits n _ (by rw [List.length_drop]; omega), List.length_take, Nat.min_eq_left h2]
theorem chunks_flat (least most bits : Nat) : ∀ (n : Nat) (l : List UInt8), l.length ≤ n → (chunksL least most bits l).flatten = l
  | 0, l, h => by
    obtain rfl : l = [] := List.length_eq_zero_iff.1 (by omega)
    rw [chunksL_nil]; rfl
  | n + 1, l, h => by
    by_cases hl : l = []
    · subst hl; rw [chunksL_nil]; rfl
    · have h1 := nextLen_pos least most bits l
      rw [chunksL_cons hl, List.flatten_cons, chunks_flat least most bits n _ (by rw [List.length_drop]; omega), List.take_append_drop]
theorem chunks_ne (least most bits : Nat) : ∀ (n : Nat) (l : List UInt8), l.length ≤ n → ∀ c ∈ chunksL least most bits l, c ≠ [] ∧ c.length ≤ l.length
  | 0, l, h => by
    obtain rfl : l = [] := List.length_eq_zero_iff.1 (by omega)
    rw [chunksL_nil]; simp
  | n + 1, l, h => by
    by_cases hl : l = []
    · subst hl; rw [chunksL_nil]; simp
    · have h1 := nextLen_pos least most bits l
      have h2 := nextLen_le least most bits l hl
      rw [chunksL_cons hl]
      intro c hc
      rcases List.mem_cons.1 hc with rfl | hc
      · have h3 : 0 < l.length := List.length_pos_iff.2 hl
        refine ⟨fun h => ?_, by rw [List.length_take]; omega⟩
        have := congrArg List.length h
        rw [List.length_take, Nat.min_eq_left h2, List.length_nil] at this; omega
      · have h3 := chunks_ne least most bits n _ (by rw [List.length_drop]; omega) c hc
        refine ⟨h3.1, ?_⟩
        have := h3.2
        rw [List.length_drop] at this; omega
/-- A list of chunks of one's own. -/
structure Chs (w : World) (B : Nat) (v : Value) (vs : List Value) (ls : List (List UInt8)) : Prop where
  row : w.ownsRow B 22 1 v vs.length vs
  len : vs.length = ls.length
  own : ∀ (j : Nat) vj lj, vs[j]? = some vj → ls[j]? = some lj → Own w B vj lj ∧ lj ≠ []
  out : ∀ (j : Nat) vj, vs[j]? = some vj → vj.ownBlock ≠ v.ownBlock
  dis : ∀ (i j : Nat) vi vj, vs[i]? = some vi → vs[j]? = some vj → vi.ownBlock = vj.ownBlock → i = j
theorem own_some {w : World} {B : Nat} {v : Value} {l : List UInt8} (h : Own w B v l) (hl : l ≠ []) : ∃ g cap, v = .slice (some ⟨g, 0, none⟩) l.length cap ∧ v.ownBlock = some g ∧ B ≤ g ∧ g < w.heap.size := by
  rcases h.2 with ⟨_, hn⟩ | ⟨g, cap, cur, rfl, hB, hg, _⟩
  · exact absurd (List.length_eq_zero_iff.1 hn) hl
  · exact ⟨g, cap, rfl, rfl, hB, (Array.getElem?_eq_some_iff.1 hg).1⟩
theorem Chs.nil (w : World) (B : Nat) : Chs w B (.slice none 0 0) [] [] := ⟨World.ownsRow_nil _ _ _ _, rfl, by simp, by simp, by simp⟩
theorem Chs.below {w w' : World} {B : Nat} {v : Value} {vs : List Value} {ls : List (List UInt8)} (h : Chs w B v vs ls) (hk : ∀ k, B ≤ k → k < w.heap.size → w'.heap[k]? = w.heap[k]?) : Chs w' B v vs ls :=
  ⟨own_below h.row hk, h.len, fun j vj lj h1 h2 => ⟨own_below (h.own j vj lj h1 h2).1 hk, (h.own j vj lj h1 h2).2⟩, h.out, h.dis⟩
theorem Tryd.info22 : (Tryd.prog.info? 22).map (fun i => (i.zero, i.size, i.bytes)) = some (some (.slice none 0 0), 1, 24) := by kernel_rfl
theorem srcB_one (w : World) (a : Option Addr) (n c : Nat) : Src Tryd.prog 1 50 (.slice (some ⟨w.heap.size, 0, none⟩) 1 1) 1 [.slice a n c] (w.alloc (.cells #[.slice a n c] 22)) :=
  Src.ofSlice _ Tryd.underlying50 _ 1 1 _ rfl (news_one _ _ _) (fun u hu => by rw [List.mem_singleton] at hu; subst hu; rfl)
/-- A chunk more: it was made at or behind W's memory, then the list was appended to. -/
theorem Chs.push {w w1 w2 : World} {B : Nat} {v v' x : Value} {vs : List Value} {ls : List (List UInt8)} {l : List UInt8} (h : Chs w B v vs ls) (hb : Below w.heap.size w w1) (hx : Own w1 w.heap.size x l) (hl : l ≠ []) (hB : B ≤ w.heap.size)
    (hr : w2.ownsRow B 22 1 v' (vs.length + 1) (vs ++ [x])) (hg : Grew w1 w2 v v') : Chs w2 B v' (vs ++ [x]) (ls ++ [l]) := by
  obtain ⟨g, cap, hxe, hxb, hg1, hg2⟩ := own_some hx hl
  have hvb : ∀ k, v.ownBlock = some k → k < w.heap.size := fun k hk => (World.ownsRow.lt h.row k hk).2
  have hlt : ∀ (j : Nat) vj, vs[j]? = some vj → ∃ k, vj.ownBlock = some k ∧ k < w.heap.size ∧ B ≤ k := by
    intro j vj hj
    have hj2 : j < ls.length := by rw [← h.len]; exact (List.getElem?_eq_some_iff.1 hj).1
    obtain ⟨h1, h2⟩ := h.own j vj _ hj (List.getElem?_eq_getElem hj2)
    obtain ⟨k, _, _, e1, e2, e3⟩ := own_some h1 h2
    exact ⟨k, e1, e3, e2⟩
  have hkeep : ∀ k, k < w.heap.size → v.ownBlock ≠ some k → w2.heap[k]? = w.heap[k]? := fun k hk hne => (hg.gb.block k (Nat.lt_of_lt_of_le hk hb.size) (fun e => hne e.symm)).trans (hb.block k hk)
  refine ⟨by rw [List.length_append]; exact hr, by rw [List.length_append, List.length_append, h.len]; rfl, ?_, ?_, ?_⟩
  · intro j vj lj hj hlj
    by_cases hjl : j < vs.length
    · rw [List.getElem?_append_left hjl] at hj
      rw [List.getElem?_append_left (by rw [← h.len]; exact hjl)] at hlj
      obtain ⟨h1, h2⟩ := h.own j vj lj hj hlj
      refine ⟨Own.kept h1 (fun k hk => ?_), h2⟩
      obtain ⟨k', e1, e2, _⟩ := hlt j vj hj
      rw [e1] at hk; injection hk with hk
      rw [← hk]
      exact hkeep k' e2 (fun e => h.out j vj hj (e1.trans e.symm))
    · have hjn : j = vs.length := by
        have := (List.getElem?_eq_some_iff.1 hj).1
        rw [List.length_append] at this; simp at this; omega
      subst hjn
      rw [List.getElem?_concat_length] at hj
      rw [h.len, List.getElem?_concat_length] at hlj
      injection hj with hj; injection hlj with hlj
      subst hj hlj
      refine ⟨?_, hl⟩
      have h1 : Own w1 B x l := ⟨hx.1, hx.2.imp_right (fun ⟨g, cap, cur, e1, e2, e3⟩ => ⟨g, cap, cur, e1, by omega, e3⟩)⟩
      refine Own.kept h1 (fun k hk => ?_)
      rw [hxb] at hk; injection hk with hk
      subst hk
      exact hg.gb.block g hg2 (fun e => by have := hvb g e.symm; omega)
  · intro j vj hj he
    by_cases hjl : j < vs.length
    · rw [List.getElem?_append_left hjl] at hj
      obtain ⟨k, e1, e2, _⟩ := hlt j vj hj
      rcases hg.own k (he.symm.trans e1) with e | e
      · exact h.out j vj hj (e1.trans e.symm)
      · have := hb.size; omega
    · have hjn : j = vs.length := by
        have := (List.getElem?_eq_some_iff.1 hj).1
        rw [List.length_append] at this; simp at this; omega
      subst hjn
      rw [List.getElem?_concat_length] at hj
      injection hj with hj
      subst hj
      rcases hg.own g (he.symm.trans hxb) with e | e
      · have := hvb g e; omega
      · omega
  · intro i j vi vj hi hj he
    have len1 : ∀ (k : Nat) u, (vs ++ [x])[k]? = some u → k < vs.length ∨ k = vs.length := by
      intro k u hk
      have := (List.getElem?_eq_some_iff.1 hk).1
      rw [List.length_append] at this; simp at this; omega
    rcases len1 i vi hi with hil | hil <;> rcases len1 j vj hj with hjl | hjl
    · rw [List.getElem?_append_left hil] at hi
      rw [List.getElem?_append_left hjl] at hj
      exact h.dis i j vi vj hi hj he
    · rw [List.getElem?_append_left hil] at hi
      rw [hjl, List.getElem?_concat_length] at hj
      injection hj with hj
      subst hj
      obtain ⟨k, e1, e2, _⟩ := hlt i vi hi
      rw [e1, hxb] at he; injection he with he
      omega
    · rw [List.getElem?_append_left hjl] at hj
      rw [hil, List.getElem?_concat_length] at hi
      injection hi with hi
      subst hi
      obtain ⟨k, e1, e2, _⟩ := hlt j vj hj
      rw [e1, hxb] at he; injection he with he
      omega
    · omega
/-- Seen as chunks in memory. -/
theorem Chs.c {w : World} {B : Nat} {v : Value} {vs : List Value} {ls : List (List UInt8)} (h : Chs w B v vs ls) : ChunksC (fun k => B ≤ k ∧ k < w.heap.size) w v ls := by
  rcases h.row.2 with ⟨rfl, hn⟩ | ⟨g, cap, cur, rfl, hB, hg, hnc, hcm, _⟩
  · exact Or.inl ⟨rfl, List.length_eq_zero_iff.1 (by rw [← h.len]; exact hn)⟩
  · refine Or.inr ⟨_, cap, by rw [h.len], by rw [← h.len]; exact hnc, hcm, Or.inr ⟨hB, (Array.getElem?_eq_some_iff.1 hg).1⟩, fun j l hj => ?_⟩
    have hj2 : j < vs.length := by rw [h.len]; exact (List.getElem?_eq_some_iff.1 hj).1
    exact ⟨vs[j], World.ownsRow.cells h.row rfl j _ (List.getElem?_eq_getElem hj2), own_c (h.own j _ l (List.getElem?_eq_getElem hj2) hj).1⟩
set_option maxRecDepth 100000 in
set_option maxHeartbeats 1000000 in
theorem clone_any (S : Nat → Prop) (v : Value) (l : List UInt8) (w : World) (hl : l.length ≤ 4194304) (hS : ∀ k, S k → k < w.heap.size) (hb : BytesC S w v l) :
    Calls Tryd.prog 62 #[v] w fun e w' => ∃ v', e = .returned v' ∧ Own w' w.heap.size v' l ∧ Below w.heap.size w w' := by
  obtain ⟨i0, hi, hz0, hz1, hz2⟩ := info_parts Tryd.info5
  have hb2 : BytesC S (w.alloc (.cells #[] 5)) v l := hb.kept (fun k hk => ⟨hk, Below.heap_alloc w _ k (hS k hk)⟩)
  have hq := run_eql_nil
  rcases hb with ⟨rfl, rfl⟩ | ⟨a, cap, rfl, hcap, hcm, hSa, hcells⟩
  · clear hb2
    go_enter Tryd.func62, Tryd.ntmps62
    go_wp2_with fail
    go_ret
    exact ⟨_, rfl, own_nil _ _, Below.refl _ _⟩
  · have HB := Lib.hid hb2
    have HO := Lib.hid (own_empty w)
    clear hcells hb2
    go_enter Tryd.func62, Tryd.ntmps62
    go_wp2_with (at_builtin; refine wpList_own_src _ rfl _ _ 22 22 rfl w.heap.size 5 i0 (.int .u8 0) 1 1 Tryd.underlying22 hi hz0 hz1 hz2 rfl (by decide) _ _ _ rfl HO.out _ _ _ rfl HB.out.srcC ?c3 ?c4 ?c5 ?_)
    case c3 => simp; unfold maxLen; omega
    case c4 => simp; omega
    case c5 => simp
    intro v2 w2 hown2 hg2
    have hown : Own w2 w.heap.size v2 l := own_more' (l := []) (by simp) hown2
    have hgr := ((Grew.alloc w (.slice (some ⟨w.heap.size, 0, none⟩) 0 0) _).trans hg2)
    have hbl : Below w.heap.size w w2 := (Below.refl _ w).grown hgr.gb (Nat.le_refl _) (fun k hk => by simp [Value.ownBlock] at hk; omega)
    have HV := Lib.hid hown
    have HBL := Lib.hid hbl
    clear hown hgr hbl hown2 hg2
    go_wp2_with fail
    go_ret
    exact ⟨v2, rfl, HV.out, HBL.out⟩
end Go.Proofs.YteijekhmgedhoaaDoor
