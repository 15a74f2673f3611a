/- Numbers for lines, the same for those that are alike: the walks of numbers and of its inner function. -/
import Derived.Test.YtfiogjdjcocbnaaLinC
import Derived.Maps.OwnSet
import Derived.Maps.Views
import Derived.Carry
import Derived.StringKeys
namespace Go.Proofs.Ytfiogjdjcocbnaa
open Go.RowKit Go.Maps

/-- Lines that are known, and those of a list that aren't yet. -/
def addK : List (List UInt8) → List (List UInt8) → List (List UInt8)
  | K, [] => K
  | K, x :: l => addK (if x ∈ K then K else K ++ [x]) l
theorem addK_app (K l r : List (List UInt8)) : addK K (l ++ r) = addK (addK K l) r := by
  induction l generalizing K with
  | nil => rfl
  | cons x l ih => exact ih _
theorem addK_pre (l : List (List UInt8)) : ∀ K, K <+: addK K l := by
  induction l with
  | nil => intro K; exact List.prefix_refl _
  | cons x l ih =>
    intro K
    refine List.IsPrefix.trans ?_ (ih _)
    split
    · exact List.prefix_refl _
    · exact List.prefix_append _ _
theorem addK_mem (l : List (List UInt8)) : ∀ K, ∀ x ∈ l, x ∈ addK K l := by
  induction l with
  | nil => intro K x hx; cases hx
  | cons y l ih =>
    intro K x hx
    rcases List.mem_cons.1 hx with rfl | hx
    · refine (addK_pre l _).subset ?_
      split
      · assumption
      · simp
    · exact ih _ x hx
theorem addK_len (l : List (List UInt8)) : ∀ K, (addK K l).length ≤ K.length + l.length := by
  induction l with
  | nil => intro K; simp [addK]
  | cons x l ih =>
    intro K
    have := ih (if x ∈ K then K else K ++ [x])
    show (addK _ l).length ≤ _
    split at this
    · rename_i h; rw [if_pos h]; simp; omega
    · rename_i h; rw [if_neg h]; simp at this ⊢; omega
theorem idx_pre {K K2 : List (List UInt8)} (h : K <+: K2) {x : List UInt8} (hx : x ∈ K) : K2.idxOf x = K.idxOf x := by
  obtain ⟨r, rfl⟩ := h
  rw [List.idxOf_append, if_pos hx]
theorem idx_inj {K : List (List UInt8)} {x y : List UInt8} (hx : x ∈ K) (h : K.idxOf x = K.idxOf y) : x = y := by
  have h1 := List.idxOf_lt_length_of_mem hx
  have h2 : K.idxOf y < K.length := by omega
  have e1 := List.getElem_idxOf h1
  have e2 := List.getElem_idxOf h2
  simp only [h] at e1
  exact e1.symm.trans e2
/-- Numbers as cells. -/
def iv (l : List Nat) : List Value := l.map fun n : Nat => Value.int .i64 (n : Int)
theorem iv_append (l r : List Nat) : iv (l ++ r) = iv l ++ iv r := by unfold iv; rw [List.map_append]
theorem iv_len (l : List Nat) : (iv l).length = l.length := by unfold iv; simp
theorem iv_one (l : List Nat) : ∀ u ∈ iv l, u.oneCell' = true := by
  intro u hu
  unfold iv at hu
  obtain ⟨x, _, rfl⟩ := List.mem_map.1 hu
  rfl
theorem iv_at {l : List Nat} {k : Nat} (h : k < l.length) : (iv l)[k]? = some (.int .i64 (l.getD k 0 : Nat)) := by
  unfold iv; simp [List.getD, List.getElem?_eq_getElem h]
def OwnI (w : World) (B : Nat) (v : Value) (l : List Nat) : Prop := w.ownsRow B 3 1 v l.length (iv l)
def IntsC (S : Nat → Prop) (w : World) (v : Value) (l : List Nat) : Prop := CellsC S w v l.length 1 (iv l)
theorem ownI_nil (w : World) (B : Nat) : OwnI w B (.slice none 0 0) [] := World.ownsRow_nil _ _ _ _
theorem ownI_push {w2 : World} {B : Nat} {v : Value} {l : List Nat} {x : Nat} (h : w2.ownsRow B 3 1 v (l.length + 1) (iv l ++ [.int .i64 (x : Int)])) : OwnI w2 B v (l ++ [x]) := by
  unfold OwnI
  rw [iv_append, List.length_append]; exact h
theorem ownI_slice {w : World} {B : Nat} {v : Value} {l : List Nat} (h : OwnI w B v l) : ∃ a cap, v = .slice a l.length cap := by
  rcases h.2 with ⟨e, hn⟩ | ⟨g, cap, cur, e, _⟩
  · rw [hn]; exact ⟨none, 0, e⟩
  · exact ⟨_, _, e⟩
theorem srcI_one (w : World) (x : Int) : Src Try.prog 1 85 (.slice (some ⟨w.heap.size, 0, none⟩) 1 1) 1 [.int .i64 x] (w.alloc (.cells #[.int .i64 x] 3)) :=
  Src.ofSlice _ Try.underlying85 _ 1 1 _ rfl (news_one _ _ _) (fun u hu => by rw [List.mem_singleton] at hu; subst hu; rfl)
theorem Try.info3i : (Try.prog.info? 3).map (fun i => (i.zero, i.size, i.bytes)) = some (some (.int .i64 0), 1, 8) := by kernel_rfl
theorem IntsC.shape {S : Nat → Prop} {w : World} {v : Value} {l : List Nat} (h : IntsC S w v l) : ∃ a c, v = .slice a l.length c := CellsC.shape h
theorem IntsC.at {S : Nat → Prop} {w : World} {a : Option Addr} {c : Nat} {l : List Nat} (h : IntsC S w (.slice a l.length c) l) (hl : 0 < l.length) : ∃ g o, a = some ⟨g, o, none⟩ ∧ S g ∧ l.length ≤ c ∧ c ≤ 9223372036854775807 ∧ ∀ i, i < l.length → w.cell? ⟨g, o + i, none⟩ = some (.int .i64 (l.getD i 0 : Nat)) := by
  obtain ⟨g, o, h1, h2, h3, h4, h5⟩ := CellsC.at h hl
  exact ⟨g, o, h1, h2, h3, h4, fun i hi => h5 i _ (iv_at hi)⟩
theorem ownI_c {w : World} {B : Nat} {v : Value} {l : List Nat} (h : OwnI w B v l) : IntsC (fun k => B ≤ k ∧ k < w.heap.size) w v l := own_cells h (iv_one l)
/-- A map of the call's own that numbers the lines of a list. -/
structure NumM (w : World) (B n : Nat) (D : DataW Unit) (K : List (List UInt8)) : Prop where
  own : w.ownsMap Try.prog 9 (plainElem Try.prog 3) B n D
  len : n = K.length
  tidy : Tidy D
  size : Maps.size D = K.length
  has : ∀ x, Maps.has D (.string x) = decide (x ∈ K)
  at_ : ∀ x, x ∈ K → D.atKey (.string x) (.lit (.int .i64 0)) = .lit (.int .i64 (K.idxOf x : Nat))
theorem keyLaw : Keyed Try.prog 9 := string_keyed Try.underlying9
theorem zeroInt (w : World) : (zeroValue 3).run Try.prog w = .ok (.int .i64 0) w := by kernel_rfl
theorem NumM.made (w : World) : NumM (w.alloc (.map #[] 0)) w.heap.size 0 (.map []) [] :=
  ⟨World.ownsMap_made _ _ _ _, rfl, tidy_empty, rfl, fun x => by simp [Maps.has], fun x hx => by cases hx⟩
theorem NumM.kept {w w' : World} {B n : Nat} {D : DataW Unit} {K : List (List UInt8)} (h : NumM w B n D K) (hk : w'.heap[B]? = w.heap[B]?) : NumM w' B n D K := by
  refine ⟨?_, h.len, h.tidy, h.size, h.has, h.at_⟩
  obtain ⟨es, clock, hb, F, hs, hD⟩ := h.own
  exact ⟨es, clock, hk.trans hb, F, hs, hD⟩
theorem lit_ne {x y : List UInt8} (h : x ≠ y) : (Lit.string x) ≠ .string y := fun e => h (by injection e)
theorem NumM.put {w w' : World} {B n : Nat} {D : DataW Unit} {K : List (List UInt8)} (h : NumM w B n D K) {x : List UInt8} (hx : x ∉ K) (ho : w'.ownsMap Try.prog 9 (plainElem Try.prog 3) B (n + 1) (D.put (.string x) (.lit (.int .i64 (K.length : Nat))))) :
    NumM w' B (n + 1) (D.put (.string x) (.lit (.int .i64 (K.length : Nat)))) (K ++ [x]) := by
  have hk : WideAt.IsKeyLit (.string x) := trivial
  have hm := h.tidy.isMap
  refine ⟨ho, by rw [h.len]; simp, h.tidy.put hk _, ?_, fun y => ?_, fun y hy => ?_⟩
  · rw [size_put h.tidy, h.has x, h.size]
    simp [hx]
  · by_cases e : y = x
    · subst e; rw [has_put_same hm hk]; simp
    · rw [has_put_other (lit_ne e), h.has y]
      apply decide_eq_decide.2
      simp [e]
  · by_cases e : y = x
    · subst e
      rw [atKey_put_same hm hk, List.idxOf_append, if_neg hx]; simp
    · have hyK : y ∈ K := by simpa [e] using hy
      rw [atKey_put_other (lit_ne e), h.at_ y hyK, List.idxOf_append, if_pos hyK]
theorem num_step {K : List (List UInt8)} {l : List (List UInt8)} {k : Nat} (h : k < l.length) : addK K (l.take (k + 1)) = (if l.getD k [] ∈ addK K (l.take k) then addK K (l.take k) else addK K (l.take k) ++ [l.getD k []]) := by
  rw [take_snoc (d := []) h, addK_app]; rfl
theorem num_map {K K2 l : List (List UInt8)} {k : Nat} (hk : k < l.length) (hp : addK K (l.take k) <+: K2) : (l.take (k + 1)).map (fun x => K2.idxOf x) = (l.take k).map (fun x => (addK K (l.take k)).idxOf x) ++ [K2.idxOf (l.getD k [])] := by
  rw [take_snoc (d := []) hk, List.map_append]
  congr 1
  apply List.map_congr_left
  intro x hx
  exact idx_pre hp (addK_mem _ _ x hx)
theorem cv_of {X : DataW Unit} {a b : Int} (h1 : X = .lit (.int .i64 a)) (h2 : X = .lit (.int .i64 b)) : a = b := by
  have := h1.symm.trans h2
  injection this with this
  injection this
set_option maxRecDepth 100000 in
set_option maxHeartbeats 4000000 in
theorem number_any (S : Nat → Prop) (v : Value) (l : List (List UInt8)) (mb B n : Nat) (D : DataW Unit) (K : List (List UInt8)) (w : World) (hS : ∀ k, S k → k < w.heap.size ∧ k ≠ B) (h : StrsC S w v l) (hl : l.length ≤ 4194304) (hK : K.length ≤ 4194304) (hx : ∀ x ∈ l, x.length ≤ 4194304)
    (hM : NumM w B n D K) (hc : w.cell? ⟨mb, 0, none⟩ = some (.map (some B))) (hmb : mb ≠ B) :
    Calls Try.prog 60 #[v, .pointer (some ⟨mb, 0, none⟩)] w fun e w' => ∃ v' n' D', e = .returned v' ∧ OwnI w' w.heap.size v' (l.map fun x => (addK K l).idxOf x) ∧ NumM w' B n' D' (addK K l) ∧ w.grownBy w' (some B) := by
  obtain ⟨i0, hi, hz0, hz1, hz2⟩ := info_parts Try.info3i
  obtain ⟨a, c, rfl⟩ := h.shape
  have HS := Lib.hid hS
  have H := Lib.hid h
  have HM := Lib.hid hM
  have HR := Lib.hid (kb_refl w (some B))
  have HC := Lib.hid hc
  have HMB := Lib.hid hmb
  have hmlt : mb < w.heap.size := World.block_lt_of_cell? _ _ hc
  have hBlt : B < w.heap.size := hM.own.lt
  have HX : Hid (∀ j, j < l.length → (l.getD j []).length ≤ 4194304) := Lib.hid (fun j hj => by rw [getD_at hj]; exact hx _ (List.getElem_mem hj))
  clear h hS hM hc hmb hx
  go_enter Try.func60, Try.ntmps60
  go_wp2_with fail
  go_loopw [4, 11] (fun o i wr => ∃ (k n' : Nat) (D' : DataW Unit), k ≤ l.length ∧ i = .int .i64 k ∧ Hid (OwnI wr w.heap.size o ((l.take k).map fun x => (addK K (l.take k)).idxOf x)) ∧ Hid (NumM wr B n' D' (addK K (l.take k))) ∧ Hid (w.grownBy wr (some B))) (fun _ i _ => l.length - (intOf i).toNat)
  case atStart => exact ⟨0, n, D, Nat.zero_le _, rfl, Lib.hid (ownI_nil _ _), HM, HR⟩
  case round =>
    obtain ⟨k, n', D', hk, rfl, hO, hN, hG⟩ := hrel
    obtain ⟨oa, oc, rfl⟩ := ownI_slice hO.out
    by_cases hlt : k < l.length
    · obtain ⟨g, o, rfl, hSg, _, _, hxs⟩ := H.out.at (by omega)
      obtain ⟨hblk, hgB⟩ := HS.out _ hSg
      have c1 := (World.cell?_of_block (w := w) (a := ⟨g, o + k, none⟩) (hG.out.block g hblk (fun e => hgB (by injection e)))).trans (hxs k hlt)
      have c2 := (World.cell?_of_block (w := w) (a := ⟨mb, 0, none⟩) (hG.out.block mb hmlt (fun e => HMB.out (by injection e)))).trans HC.out
      have hxl := HX.out k hlt
      have HST := Lib.hid (num_step (K := K) hlt)
      have HMAP := Lib.hid (fun K2 => num_map (K := K) (K2 := K2) hlt)
      have hKL : (addK K (l.take k)).length ≤ 8388608 := by have := addK_len (l.take k) K; simp at this; omega
      have hlm : ((l.take k).map fun x => (addK K (l.take k)).idxOf x).length = k := by simp; omega
      have HLM := Lib.hid hlm
      have hdl : ((l.take k).map fun x => (addK K (l.take k)).idxOf x).length ≤ 4194304 := by omega
      clear hlm
      have hsz := hG.out.size
      generalize ((l.take k).map fun x => (addK K (l.take k)).idxOf x) = d at *
      generalize addK K (l.take k) = Kk at *
      generalize l.getD k [] = x at *
      have hkey : keyOf Try.prog 9 (.string ⟨x.toArray⟩) = some (.string x) := by
        have := Go.WideMaps.keyOf_string_mk Try.underlying9 (s := ⟨x.toArray⟩) (by unfold maxLen; simp [ByteArray.size]; omega)
        simpa using this
      clear hxs
      by_cases hin : x ∈ Kk
      · have HH : Hid (Maps.has D' (.string x) = true) := Lib.hid (by rw [hN.out.has]; exact decide_eq_true hin)
        have HAT := Lib.hid (hN.out.at_ x hin)
        have HIL : Kk.idxOf x < 8388608 := by have := List.idxOf_lt_length_of_mem hin; omega
        have HST2 : Hid (addK K (l.take (k + 1)) = Kk) := Lib.hid (HST.out.trans (if_pos hin))
        have HMP := Lib.hid (HMAP.out Kk (List.prefix_refl _))
        clear hin
        generalize Kk.idxOf x = q at *
        go_wp2_with (first | (at_lookup; refine wpList_lookup_own_ok_int _ rfl _ _ 106 rfl 9 3 .i64 keyLaw Try.underlying106 Try.underlying3 (zeroInt _) B n' D' rfl hN.out.own _ _ rfl hkey ?_; intro cv hat hwc; rw [HH.out]; obtain rfl := cv_of hat HAT.out; clear hat hwc) | (at_builtin; refine wpList_own_src _ rfl _ _ 85 85 rfl w.heap.size 3 i0 (.int .i64 0) 1 8 Try.underlying85 hi hz0 hz1 hz2 rfl (by decide) _ _ _ rfl (World.ownsRow.alloc hO.out _) _ 1 [.int .i64 (q : Int)] rfl (srcI_one _ _) (by unfold maxLen; omega) (by omega) (by simp; omega) ?_))
        intro v5 w5 hown5 hg5
        have O5 : Hid (OwnI w5 w.heap.size v5 (d ++ [q])) := Lib.hid (ownI_push hown5)
        have hne5 : ∀ j, j < w.heap.size → some j ≠ (Value.slice oa d.length oc).ownBlock := fun j hj e => by have := (World.ownsRow.lt hO.out j e.symm).1; omega
        have G5 : Hid (w.grownBy w5 (some B)) := Lib.hid (kb_grew (kb_alloc hG.out _) hg5 (Nat.le_refl _) (fun j hj => (World.ownsRow.lt hO.out j hj).1))
        have N5 : Hid (NumM w5 B n' D' Kk) := Lib.hid (hN.out.kept (by rw [hg5.gb.block B (by simp; omega) (hne5 B hBlt), Below.heap_alloc _ _ _ (by omega)]))
        clear hown5 hg5 hne5
        go_wp2_with fail
        go_roundw
        case rel => exact ⟨k + 1, n', D', by omega, by go_num, by rw [HST2.out, HMP.out]; exact O5, by rw [HST2.out]; exact N5, G5⟩
        case measure => simp [intOf]; omega
      · have HH : Hid (Maps.has D' (.string x) = false) := Lib.hid (by rw [hN.out.has]; exact decide_eq_false hin)
        have HSZ : Hid (Maps.size D' = Kk.length) := Lib.hid hN.out.size
        have hn8 : n' < 9000000 := by have := hN.out.len; omega
        have HST2 : Hid (addK K (l.take (k + 1)) = Kk ++ [x]) := Lib.hid (HST.out.trans (if_neg hin))
        have HMP : Hid ((l.take (k + 1)).map (fun y => (Kk ++ [x]).idxOf y) = d ++ [Kk.length]) := Lib.hid (by
          rw [HMAP.out (Kk ++ [x]) (List.prefix_append _ _), List.idxOf_append, if_neg hin]; simp)
        have HIN := Lib.hid hin
        have hwf : (Lit.int .i64 (Kk.length : Int)).wf = true := WalkArith.wf_i64 (by omega)
        clear hin
        have hne4 : Hid ((Value.slice oa d.length oc).ownBlock ≠ some B) := Lib.hid (fun e => by have := (World.ownsRow.lt hO.out B e).1; omega)
        go_wp2_with (first | (at_lookup; refine wpList_lookup_own_ok_int _ rfl _ _ 106 rfl 9 3 .i64 keyLaw Try.underlying106 Try.underlying3 (zeroInt _) B n' D' rfl hN.out.own _ _ rfl hkey ?_; intro cv hat hwc; rw [HH.out]; clear hat hwc) | (at_len; refine wpList_len_own _ rfl _ 106 rfl 9 3 Try.underlying106 _ B n' D' rfl hN.out.own ?_; rw [HSZ.out]) | (at_mapUpdate; refine wpList_mapUpdate_own _ rfl _ _ _ 106 rfl 9 3 keyLaw Try.underlying106 _ B n' _ rfl hN.out.own (by unfold maxLen; omega) _ _ _ rfl rfl hkey _ [] (plainElem_int Try.underlying3 hwf) ?_; intro w4 hown4 hgrow4; have N4 := Lib.hid (hN.out.put HIN.out hown4); have O4 : Hid (OwnI w4 w.heap.size (.slice oa d.length oc) d) := Lib.hid (World.ownsRow.kept hO.out hgrow4 (Or.inr hne4.out)); have G4 := Lib.hid (kb_trans hG.out hgrow4); have hs4 := hgrow4.size; clear hown4 hgrow4) | (at_builtin; refine wpList_own_src _ rfl _ _ 85 85 rfl w.heap.size 3 i0 (.int .i64 0) 1 8 Try.underlying85 hi hz0 hz1 hz2 rfl (by decide) _ _ _ rfl (World.ownsRow.alloc O4.out _) _ 1 [.int .i64 (Kk.length : Int)] rfl (srcI_one _ _) (by unfold maxLen; omega) (by omega) (by simp; omega) ?_))
        intro v5 w5 hown5 hg5
        have O5 : Hid (OwnI w5 w.heap.size v5 (d ++ [Kk.length])) := Lib.hid (ownI_push hown5)
        have hne5 : ∀ j, j < w.heap.size → some j ≠ (Value.slice oa d.length oc).ownBlock := fun j hj e => by have := (World.ownsRow.lt O4.out j e.symm).1; omega
        have G5 : Hid (w.grownBy w5 (some B)) := Lib.hid (kb_grew (kb_alloc G4.out _) hg5 (Nat.le_refl _) (fun j hj => (World.ownsRow.lt O4.out j hj).1))
        have N5 := Lib.hid (N4.out.kept (w' := w5) (by rw [hg5.gb.block B (by simp; omega) (hne5 B hBlt), Below.heap_alloc _ _ _ (by omega)]))
        clear hown5 hg5 hne5
        go_wp2_with fail
        go_roundw
        case rel => exact ⟨k + 1, n' + 1, _, by omega, by go_num, by rw [HST2.out, HMP.out]; exact O5, by rw [HST2.out]; exact N5, G5⟩
        case measure => simp [intOf]; omega
    · have hkl : l.take k = l := List.take_of_length_le (by omega)
      have HQ := Lib.hid hkl
      clear hkl
      go_wp2_with fail
      go_ret
      refine ⟨_, n', D', rfl, ?_, ?_, hG.out⟩
      · have e : (l.take k).map (fun x => (addK K (l.take k)).idxOf x) = l.map (fun x => (addK K l).idxOf x) := by rw [HQ.out]
        rw [← e]; exact hO.out
      · have := hN.out; rwa [HQ.out] at this
/-- The numbers of two lists' lines. -/
def numK (a b : List (List UInt8)) : List (List UInt8) := addK (addK [] a) b
def numA (a b : List (List UInt8)) : List Nat := a.map fun x => (numK a b).idxOf x
def numB (a b : List (List UInt8)) : List Nat := b.map fun x => (numK a b).idxOf x
theorem num_inj (a b : List (List UInt8)) : ∀ x ∈ a, ∀ y ∈ b, (numK a b).idxOf x = (numK a b).idxOf y → x = y :=
  fun x hx _ _ h => idx_inj ((addK_pre b _).subset (addK_mem a [] x hx)) h
theorem numA_first (a b : List (List UInt8)) : a.map (fun x => (addK [] a).idxOf x) = numA a b := by
  unfold numA
  apply List.map_congr_left
  intro x hx
  exact (idx_pre (addK_pre b _) (addK_mem a [] x hx)).symm
set_option maxRecDepth 100000 in
set_option maxHeartbeats 4000000 in
theorem numbers_any (S T : Nat → Prop) (va vb : Value) (a b : List (List UInt8)) (w : World) (hS : ∀ k, S k → k < w.heap.size) (hT : ∀ k, T k → k < w.heap.size) (ha : StrsC S w va a) (hb : StrsC T w vb b) (hal : a.length ≤ 4194304) (hbl : b.length ≤ 4194304) (hax : ∀ x ∈ a, x.length ≤ 4194304) (hbx : ∀ x ∈ b, x.length ≤ 4194304) :
    Calls Try.prog 47 #[va, vb] w fun e w' => ∃ v1 v2, e = .returned (.tuple #[v1, v2]) ∧ OwnI w' w.heap.size v1 (numA a b) ∧ OwnI w' w.heap.size v2 (numB a b) ∧ Below w.heap.size w w' := by
  have hmm := @run_makeMap Try.prog
  have HS := Lib.hid hS
  have HT := Lib.hid hT
  have HA := Lib.hid ha
  have HB := Lib.hid hb
  have HN := Lib.hid (NumM.made w)
  have C0 : Hid (((w.alloc (.map #[] 0)).alloc (.cells #[.map (some w.heap.size)] 106)).cell? ⟨w.heap.size + 1, 0, none⟩ = some (.map (some w.heap.size))) := Lib.hid (by simp)
  have HX1 := Lib.hid hax
  have HX2 := Lib.hid hbx
  have HB0 := Lib.hid (((Below.refl w.heap.size w).alloc (Nat.le_refl _) (.map #[] 0)).alloc (by simp) (.cells #[.map (some w.heap.size)] 106))
  clear hS hT ha hb hax hbx
  go_enter Try.func47, Try.ntmps47
  go_wp2_with fail
  refine (number_any S va a (w.heap.size + 1) w.heap.size 0 (.map []) [] _ (fun k hk => by have := HS.out k hk; exact ⟨by simp; omega, by omega⟩) (HA.out.kept (fun k hk => ⟨hk, HB0.out.block k (HS.out k hk)⟩)) hal (by simp) HX1.out (HN.out.kept (Below.heap_alloc _ _ _ (by simp))) C0.out (by omega)).mono ?_
  rintro e w1 ⟨v1, n1, D1, rfl, ho1, hn1, hg1⟩
  have O1 := Lib.hid ho1
  have N1 := Lib.hid hn1
  have C1 : Hid (w1.cell? ⟨w.heap.size + 1, 0, none⟩ = some (.map (some w.heap.size))) := Lib.hid (by
    rw [World.cell?_of_block (w := (w.alloc (.map #[] 0)).alloc (.cells #[.map (some w.heap.size)] 106)) (hg1.block _ (by simp) (by simp))]; exact C0.out)
  have B1 : Hid (Below w.heap.size w w1) := Lib.hid (HB0.out.grown hg1 (by simp; omega) (fun k hk => by injection hk with hk; omega))
  clear ho1 hn1 hg1
  go_wp2_with fail
  refine (number_any T vb b (w.heap.size + 1) w.heap.size n1 D1 (addK [] a) w1 (fun k hk => by have := HT.out k hk; exact ⟨by have := B1.out.size; omega, by omega⟩) (HB.out.kept (fun k hk => ⟨hk, B1.out.block k (HT.out k hk)⟩)) hbl (by have := addK_len a []; simp at this; omega) HX2.out N1.out C1.out (by omega)).mono ?_
  rintro e w2 ⟨v2, n2, D2, rfl, ho2, hn2, hg2⟩
  have O2 := Lib.hid ho2
  have O1' : Hid (OwnI w2 w.heap.size v1 (numA a b)) := Lib.hid (by
    rw [← numA_first]
    refine own_base (World.ownsRow.kept O1.out hg2 (Or.inr (fun e => by have := (World.ownsRow.lt O1.out _ e).1; simp at this; omega))) (by simp; omega))
  have B2 : Hid (Below w.heap.size w w2) := Lib.hid (B1.out.grown hg2 B1.out.size (fun k hk => by injection hk with hk; omega))
  have hs2 := B1.out.size
  clear ho2 hn2 hg2
  go_wp2_with fail
  go_ret2
  exact ⟨v1, v2, rfl, O1'.out, own_base O2.out hs2, B2.out⟩
end Go.Proofs.Ytfiogjdjcocbnaa
