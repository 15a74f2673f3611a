/- The reference's Tips and Bases. -/
import Derived.Test.YtfphkbbgbfnhaaaDagEb
import Derived.StillTailTactics
namespace Go.Proofs.Ytfphkbbgbfnhaaa
open Go.RowKit Go.Shelf Go.Maps Go.Lib Go.Sort

/-- Is one of some nodes a tip, as far as the first of them tell? -/
noncomputable def tipB (g : Gr) (x : Txt) (l : List Txt) : Bool := decide (x ∈ names g) && l.all (fun y => y == x || !comesB g y x)
/-- The tips of the first of some nodes, put in order. -/
noncomputable def tipsL (g : Gr) (l : List Txt) (k : Nat) : List Txt := ascN ((l.take k).filter (fun x => tipB g x l))
theorem all_take {α : Type} {d : α} (p : α → Bool) {l : List α} {k : Nat} (hk : k < l.length) : (l.take (k + 1)).all p = ((l.take k).all p && p (l.getD k d)) := by
  rw [take_snoc (d := d) hk, List.all_append]; simp
theorem tipsL_succ (g : Gr) {l : List Txt} {k : Nat} (hk : k < l.length) : tipsL g l (k + 1) = if tipB g (l.getD k []) l = true then withN (tipsL g l k) (l.getD k []) else tipsL g l k := by
  unfold tipsL
  rw [take_snoc (d := []) hk, List.filter_append]
  by_cases h : tipB g (l.getD k []) l = true
  · rw [if_pos h, List.filter_cons_of_pos (p := fun x => tipB g x l) h, List.filter_nil, ascN_snoc]
  · rw [if_neg h, List.filter_cons_of_neg (p := fun x => tipB g x l) h, List.filter_nil, List.append_nil]
theorem tipsL_is {g : Gr} (hg : Good g) (l : List Txt) : IsTips g (begF g l) (tipsL g l l.length) := by
  refine ⟨asc_ascN _, fun x => ?_⟩
  unfold tipsL
  rw [List.take_length, mem_ascN, List.mem_filter]
  unfold tipB
  rw [Bool.and_eq_true, decide_eq_true_eq, List.all_eq_true, in_names]
  constructor
  · rintro ⟨h1, h2, h3⟩
    refine ⟨idxN g x, h2, nm_idx h2, ⟨idxN g x, beg_iff.2 ⟨h2, by rw [nm_idx h2]; exact h1⟩, .refl _⟩, fun h4 => ?_⟩
    obtain ⟨j, ⟨s, h5, h6⟩, h7, h8⟩ := (under_iff hg).1 h4
    obtain ⟨h9, h10⟩ := beg_iff.1 h5
    have h11 := h3 _ h10
    rw [Bool.or_eq_true, Bool.not_eq_true', beq_iff_eq] at h11
    rcases h11 with h11 | h11
    · have e : idxN g x = s := by rw [← h11]; exact idx_nm hg h9
      have := h6.le hg
      have := h8.le hg
      omega
    · have : comesB g (nmOf g s) x = true := by rw [comes_iff hg, idx_nm hg h9]; exact ⟨h9, h2, h6.trans h8⟩
      rw [h11] at this; cases this
  · rintro ⟨i, h1, rfl, ⟨s, h2, h3⟩, h4⟩
    obtain ⟨h5, h6⟩ := beg_iff.1 h2
    have key : ∀ y ∈ l, comesB g y (nmOf g i) = true → y = nmOf g i := fun y hy hc => by
      rw [comes_iff hg, idx_nm hg h1] at hc
      rcases Classical.em (idxN g y = i) with e | e
      · rw [← e, nm_idx hc.1]
      · exact absurd ((under_iff hg).2 ⟨idxN g y, ⟨idxN g y, beg_iff.2 ⟨hc.1, by rw [nm_idx hc.1]; exact hy⟩, .refl _⟩, e, hc.2.2⟩) h4
    have hs : nmOf g s = nmOf g i := key _ h6 (by rw [comes_iff hg, idx_nm hg h5, idx_nm hg h1]; exact ⟨h5, h1, h3⟩)
    refine ⟨by rw [← hs]; exact h6, by rw [idx_nm hg h1]; exact h1, fun y hy => ?_⟩
    rw [Bool.or_eq_true, Bool.not_eq_true', beq_iff_eq]
    cases hc : comesB g y (nmOf g i)
    · exact Or.inr rfl
    · exact Or.inl (key y hy hc)
theorem tipsL_len (g : Gr) (l : List Txt) (k : Nat) : (tipsL g l k).length ≤ l.length := by
  unfold tipsL
  have h1 := ascN_len ((l.take k).filter (fun x => tipB g x l))
  have h2 := List.length_filter_le (fun x => tipB g x l) (l.take k)
  have h3 : (l.take k).length ≤ l.length := by simp; omega
  omega
theorem tipsL_asc (g : Gr) (l : List Txt) (k : Nat) : Asc (tipsL g l k) := asc_ascN _
theorem find_ge (g : Gr) (x : Txt) : ∃ q : Int, findN (refOf g) x = q ∧ decide ((0 : Int) ≤ q) = decide (x ∈ names g) := by
  rcases find_iff g x with ⟨h, n, hn⟩ | ⟨h, hn⟩
  · exact ⟨_, hn, by rw [decide_eq_true h]; simp⟩
  · exact ⟨_, hn, by rw [decide_eq_false h]; rfl⟩
set_option maxRecDepth 100000 in
set_option maxHeartbeats 8000000 in
theorem rtips_any (S S2 : Nat → Prop) (v v2 : Value) (g : Gr) (l : List Txt) (w : World) (hS : ∀ k, S k → k < w.heap.size) (h : NodesC S w v (refOf g)) (hg : Good g) (hgl : g.length ≤ 65536) (hpl : ∀ i, (psOf g i).length ≤ 4194304) (hS2 : ∀ k, S2 k → k < w.heap.size) (hv : StrsC S2 w v2 l) (hl : l.length ≤ 4194304) :
    Calls Try.prog 21 #[v, v2] w fun e w' => ∃ v', e = .returned v' ∧ StrsC (fun k => k < w'.heap.size) w' v' (tipsL g l l.length) ∧ Below w.heap.size w w' := by
  have HN := Lib.hid (fun (W : World) (hb : Below w.heap.size w W) => RowsC.kept node_keeps h (S' := S) (w' := W) (fun k hk => ⟨hk, hb.block k (hS k hk)⟩))
  have HV := Lib.hid (fun (W : World) (hb : Below w.heap.size w W) => hv.kept (S' := S2) (w' := W) (fun k hk => ⟨hk, hb.block k (hS2 k hk)⟩))
  have HC := Lib.hid (fun (W : World) (hb : Below w.heap.size w W) (x y : Txt) (r : Bool) (hr : comesB g x y = r) => rcomes_any S v g x y W (fun k hk => Nat.lt_of_lt_of_le (hS k hk) hb.size) (HN.out W hb) hg hgl hpl hr)
  obtain ⟨a, c, rfl⟩ := RowsC.shape h
  obtain ⟨la, lc, rfl⟩ := hv.shape
  rw [refOf_len] at HN HC ⊢
  clear h hv hg hpl hS hS2
  go_enter Try.func21, Try.ntmps21
  go_wp2_with fail
  go_loopw [5, 6] (fun o i wr => ∃ k : Nat, k ≤ l.length ∧ i = .int .i64 k ∧ Hid (StrsC (fun q => q < wr.heap.size) wr o (tipsL g l k)) ∧ Hid (Below w.heap.size w wr)) (fun _ i _ => l.length - (intOf i).toNat)
  case atStart => exact ⟨0, Nat.zero_le _, rfl, Lib.hid (by show StrsC _ _ _ []; exact CellsC.nil _ _ none 0 1), Lib.hid (Below.refl _ _)⟩
  case round =>
    obtain ⟨k, hk, rfl, hO, hB⟩ := hrel
    by_cases hlt : k < l.length
    · obtain ⟨lg, lo, rfl, _, _, _, hc⟩ := (HV.out wr hB.out).at (by omega)
      have HCL : Hid (∀ W, Below w.heap.size w W → ∀ j, j < l.length → W.cell? ⟨lg, lo + j, none⟩ = some (.string ⟨(l.getD j []).toArray⟩)) := Lib.hid (fun W hW j hj => by
        obtain ⟨g', o', e', _, _, _, h'⟩ := (HV.out W hW).at (by omega)
        cases e'
        exact h' j hj)
      have c1 := hc k hlt
      have HT := Lib.hid (tipsL_succ g hlt)
      have HAL := Lib.hid (fun m (hm : m < l.length) => all_take (d := []) (fun y => y == l.getD k [] || !comesB g y (l.getD k [])) hm)
      have HTB : Hid (tipB g (l.getD k []) l = (decide (l.getD k [] ∈ names g) && l.all (fun y => y == l.getD k [] || !comesB g y (l.getD k [])))) := Lib.hid rfl
      obtain ⟨q, hq, hge⟩ := find_ge g (l.getD k [])
      have HFD := Lib.hid (find_any S (.slice a g.length c) (refOf g) (l.getD k []) wr (HN.out wr hB.out) (by rw [refOf_len]; omega))
      rw [hq] at HFD
      have HCK : Hid (∀ W, Below w.heap.size w W → W.cell? ⟨lg, lo + k, none⟩ = some (.string ⟨(l.getD k []).toArray⟩)) := Lib.hid (fun W hW => HCL.out W hW k hlt)
      clear hc hq
      generalize l.getD k [] = x at *
      obtain ⟨b0, hb0⟩ : ∃ b, decide (x ∈ names g) = b := ⟨_, rfl⟩
      rw [hb0] at hge HTB
      clear hb0
      obtain ⟨oa, oc, rfl⟩ := hO.out.shape
      go_wp2_with fail
      refine HFD.out.mono ?_
      rintro e w3 ⟨rfl, rfl⟩
      clear c1 HFD
      have hB' := hB
      go_wp2_with fail
      go_loopw [7, 8] (fun t j wr' => ∃ (m : Nat) (b : Bool), m ≤ l.length ∧ j = .int .i64 m ∧ t = .bool b ∧ Hid (b = (b0 && (l.take m).all (fun y => y == x || !comesB g y x))) ∧ Hid (Below wr.heap.size wr wr')) (fun _ j _ => l.length - (intOf j).toNat)
      case atStart => exact ⟨0, b0, Nat.zero_le _, rfl, by simp, Lib.hid (by simp), Lib.hid (Below.refl _ _)⟩
      case round =>
        obtain ⟨m, b, hm, rfl, rfl, hb, hB2⟩ := hrel
        have hBW : Hid (Below w.heap.size w wr) := Lib.hid (hB'.out.trans (hB2.out.mono hB'.out.size))
        by_cases hml : m < l.length
        · have c1 := HCK.out wr hBW.out
          have c2 := HCL.out wr hBW.out m hml
          have HM := Lib.hid (HAL.out m hml)
          have hlc := l.length
          generalize l.getD m [] = y at *
          cases b
          · go_upto_region 9 with fail
            go_quiet (fail)
            go_wp2_with fail
            go_roundw
            case rel => exact ⟨m + 1, false, by omega, by go_num, rfl, Lib.hid (by rw [HM.out, ← Bool.and_assoc, ← hb.out]; rfl), Lib.hid (hB2.out.trans (drewn _ _ _))⟩
            case measure => simp [intOf]; omega
          · by_cases hyx : y = x
            · have gx : (y == x) = true := by rw [hyx]; simp
              have HM2 : Hid ((l.take (m + 1)).all (fun y => y == x || !comesB g y x) = (l.take m).all (fun y => y == x || !comesB g y x)) := Lib.hid (by rw [HM.out, gx]; simp)
              clear hyx
              go_upto_region 9 with fail
              go_quiet (fail)
              go_wp2_with fail
              go_roundw
              case rel => exact ⟨m + 1, true, by omega, by go_num, rfl, Lib.hid (by rw [HM2.out, ← hb.out]), Lib.hid (hB2.out.trans (drewn _ _ _))⟩
              case measure => simp [intOf]; omega
            · have gx : (y == x) = false := by simpa using hyx
              obtain ⟨r, hr⟩ : ∃ r, comesB g y x = r := ⟨_, rfl⟩
              have HM2 : Hid ((l.take (m + 1)).all (fun y => y == x || !comesB g y x) = ((l.take m).all (fun y => y == x || !comesB g y x) && !r)) := Lib.hid (by rw [HM.out, gx, hr]; simp)
              have HCC := Lib.hid (HC.out (wr.drewN 1) (hBW.out.trans (drewn _ _ _)) y x r hr)
              clear hyx hr
              go_upto_region 9 with fail
              go_still_tail 21, (by kernel_rfl)
              change wpList _ _ _ _ _ (wr.drewN 1)
              have HB3 : Hid (Below wr.heap.size wr (wr.drewN 1)) := Lib.hid (drewn _ _ _)
              clear c1 c2
              generalize wr.drewN 1 = wd at *
              go_wp2_with fail
              refine HCC.out.mono ?_
              rintro e w6 ⟨rfl, b6⟩
              go_wp2_with fail
              go_roundw
              case rel => exact ⟨m + 1, !r, by omega, by go_num, by simp, Lib.hid (by rw [HM2.out, ← Bool.and_assoc, ← hb.out]; simp), Lib.hid (hB2.out.trans ((HB3.out.trans (b6.mono HB3.out.size)).mono hB2.out.size))⟩
              case measure => simp [intOf]; omega
        · have HTB2 : Hid (tipB g x l = b) := Lib.hid (by rw [HTB.out, hb.out, List.take_of_length_le (by omega)])
          rw [HTB2.out] at HT
          have hO2 : Hid (StrsC (fun q => q < wr.heap.size) wr (.slice oa (tipsL g l k).length oc) (tipsL g l k)) := Lib.hid (hO.out.kept (fun q hq => ⟨Nat.lt_of_lt_of_le hq hB2.out.size, hB2.out.block q hq⟩))
          cases b
          · have HT2 : Hid (tipsL g l (k + 1) = tipsL g l k) := Lib.hid (by rw [HT.out]; simp)
            go_wp2_with fail
            go_roundw
            case rel => exact ⟨k + 1, by omega, by go_num, by rw [HT2.out]; exact hO2, hBW⟩
            case measure => simp [intOf]; omega
          · have HT2 : Hid (tipsL g l (k + 1) = withN (tipsL g l k) x) := Lib.hid (by rw [HT.out]; simp)
            have c1 := HCK.out wr hBW.out
            have HW := Lib.hid (with_any (fun q => q < wr.heap.size) _ (tipsL g l k) x wr (fun _ hq => hq) hO2.out (tipsL_asc g l k) (by have := tipsL_len g l k; omega))
            generalize tipsL g l k = d at *
            go_wp2_with fail
            refine HW.out.mono ?_
            rintro e w6 ⟨v6, rfl, s6, b6⟩
            have O6 : Hid (StrsC (fun q => q < w6.heap.size) w6 v6 (withN d x)) := Lib.hid (s6.kept (fun q hq => ⟨by have := b6.size; rcases hq with h | h <;> omega, rfl⟩))
            have B6 : Hid (Below w.heap.size w w6) := Lib.hid (hBW.out.trans (b6.mono hBW.out.size))
            clear s6 b6
            go_wp2_with fail
            go_roundw
            case rel => exact ⟨k + 1, by omega, by go_num, by rw [HT2.out]; exact O6, B6⟩
            case measure => simp [intOf]; omega
    · have hkk : k = l.length := by omega
      have HK := Lib.hid hkk
      clear hkk
      obtain ⟨oa, oc, rfl⟩ := hO.out.shape
      go_wp2_with fail
      go_ret
      refine ⟨_, rfl, ?_, hB.out⟩
      rw [← HK.out]; exact hO.out
/-- What both of two nodes come from, in the order of the first one's. -/
noncomputable def bothA (g : Gr) (a b : Txt) (k : Nat) : List Txt := ((missN g [a] []).take k).filter (fun x => decide (x ∈ missN g [b] []))
theorem bothA_succ (g : Gr) (a b : Txt) {k : Nat} (hk : k < (missN g [a] []).length) : bothA g a b (k + 1) = if decide ((missN g [a] []).getD k [] ∈ missN g [b] []) = true then bothA g a b k ++ [(missN g [a] []).getD k []] else bothA g a b k := by
  unfold bothA
  rw [take_snoc (d := []) hk, List.filter_append]
  by_cases h : decide ((missN g [a] []).getD k [] ∈ missN g [b] []) = true
  · rw [if_pos h, List.filter_cons_of_pos (p := fun x => decide (x ∈ missN g [b] [])) h, List.filter_nil]
  · rw [if_neg h, List.filter_cons_of_neg (p := fun x => decide (x ∈ missN g [b] [])) h, List.filter_nil, List.append_nil]
theorem bothA_len (g : Gr) (a b : Txt) (k : Nat) : (bothA g a b k).length ≤ g.length := by
  unfold bothA
  have h2 := List.length_filter_le (fun x => decide (x ∈ missN g [b] [])) ((missN g [a] []).take k)
  have h3 : ((missN g [a] []).take k).length ≤ (missN g [a] []).length := by simp; omega
  have h4 := miss_len g [a] []
  omega
theorem bothA_mem {g : Gr} (hg : Good g) (a b x : Txt) : x ∈ bothA g a b (missN g [a] []).length ↔ x ∈ bothN g a b := by
  unfold bothA
  rw [List.take_length, List.mem_filter, decide_eq_true_eq]
  have e1 := anc_in hg a x
  have e2 := anc_in hg b x
  constructor
  · rintro ⟨h1, h2⟩
    rw [decide_eq_true h1] at e1
    rw [decide_eq_true h2] at e2
    have c1 := (comes_iff hg).1 e1.symm
    have c2 := (comes_iff hg).1 e2.symm
    have := (beg_iff.1 ((both_iff hg c1.2.1).2 ⟨c1.1, c2.1, c1.2.2, c2.2.2⟩)).2
    rwa [nm_idx c1.2.1] at this
  · intro hx
    have hx' := hx
    unfold bothN at hx'
    obtain ⟨p, hp, rfl⟩ := List.mem_map.1 hx'
    obtain ⟨h1, _⟩ := List.mem_filter.1 hp
    have hp1 : p.1 < g.length := by
      unfold visN at h1
      obtain ⟨j, h3, rfl⟩ := List.mem_map.1 h1
      have h4 := (List.mem_filter.1 h3).1
      simpa using h4
    have hC := (both_iff hg hp1).1 (beg_iff.2 ⟨hp1, hx⟩)
    constructor
    · rw [← decide_eq_true_eq (p := _ ∈ _), e1, comes_iff hg, idx_nm hg hp1]; exact ⟨hC.1, hp1, hC.2.2.1⟩
    · rw [← decide_eq_true_eq (p := _ ∈ _), e2, comes_iff hg, idx_nm hg hp1]; exact ⟨hC.2.1, hp1, hC.2.2.2⟩
theorem begF_eq {g : Gr} {l m : List Txt} (h : ∀ x, x ∈ l ↔ x ∈ m) : begF g l = begF g m := by
  funext p
  rw [Bool.eq_iff_iff, beg_iff, beg_iff, h]
theorem rbases_is {g : Gr} (hg : Good g) (a b : Txt) : IsTips g (begF g (bothN g a b)) (tipsL g (bothA g a b (missN g [a] []).length) (bothA g a b (missN g [a] []).length).length) := by
  rw [← begF_eq (bothA_mem hg a b)]
  exact tipsL_is hg _
set_option maxRecDepth 100000 in
set_option maxHeartbeats 8000000 in
theorem rbases_any (S : Nat → Prop) (v : Value) (g : Gr) (x y : Txt) (w : World) (hS : ∀ k, S k → k < w.heap.size) (h : NodesC S w v (refOf g)) (hg : Good g) (hgl : g.length ≤ 65536) (hpl : ∀ i, (psOf g i).length ≤ 4194304) :
    Calls Try.prog 19 #[v, .string ⟨x.toArray⟩, .string ⟨y.toArray⟩] w fun e w' => ∃ v' R, e = .returned v' ∧ StrsC (fun k => k < w'.heap.size) w' v' R ∧ IsTips g (begF g (bothN g x y)) R ∧ R.length ≤ g.length ∧ Below w.heap.size w w' := by
  obtain ⟨i0, hi, hz0, hz1, hz2⟩ := info_parts Try.info9s
  have HN := Lib.hid (fun (W : World) (hb : Below w.heap.size w W) => RowsC.kept node_keeps h (S' := S) (w' := W) (fun k hk => ⟨hk, hb.block k (hS k hk)⟩))
  have HAN := Lib.hid (fun (W : World) (hb : Below w.heap.size w W) (x : Txt) => ranc_any S (fun k => W.heap.size ≤ k ∧ k < W.heap.size + 1) v _ g [x] (W.alloc (.cells #[.string ⟨x.toArray⟩] 9)) (fun k hk => Nat.lt_of_lt_of_le (hS k hk) (Nat.le_trans hb.size (by simp))) (RowsC.kept node_keeps (HN.out W hb) (fun k hk => ⟨hk, Below.heap_alloc _ _ _ (Nat.lt_of_lt_of_le (hS k hk) hb.size)⟩)) hg hgl hpl in_alloc (strs_one W x) (by simp))
  have HTI := Lib.hid (fun (W : World) (hb : Below w.heap.size w W) (S2 : Nat → Prop) (v2 : Value) (l : List Txt) h1 h2 h3 => rtips_any S S2 v v2 g l W (fun k hk => Nat.lt_of_lt_of_le (hS k hk) hb.size) (HN.out W hb) hg hgl hpl h1 h2 h3)
  have HIS := Lib.hid (rbases_is hg x y)
  have HAL := Lib.hid (miss_len g [x] [])
  have HBL := Lib.hid (miss_len g [y] [])
  have HBS := Lib.hid (fun k hk => bothA_succ g x y (k := k) hk)
  have HLB := Lib.hid (fun k => bothA_len g x y k)
  have HTL := Lib.hid (fun l k => tipsL_len g l k)
  obtain ⟨a, c, rfl⟩ := RowsC.shape h
  rw [refOf_len] at HN HAN HTI ⊢
  clear h hg hpl hS
  have hal := HAL.out
  have hbl := HBL.out
  have HB0 : Hid (bothA g x y 0 = []) := Lib.hid (by unfold bothA; simp)
  obtain ⟨A, hA⟩ : ∃ A, missN g [x] [] = A := ⟨_, rfl⟩
  obtain ⟨B, hB⟩ : ∃ B, missN g [y] [] = B := ⟨_, rfl⟩
  have HA := Lib.hid hA
  have HB := Lib.hid hB
  rw [hA] at hal HIS HBS
  rw [hB] at hbl HBS
  clear hA hB HAL HBL
  go_enter Try.func19, Try.ntmps19
  go_wp2_with fail
  refine (HAN.out w (Below.refl _ _) x).mono ?_
  rw [HA.out]
  rintro e w1 ⟨v1, rfl, o1, b1⟩
  have BW : Hid (Below w.heap.size w (w.alloc (.cells #[.string ⟨x.toArray⟩] 9))) := Lib.hid ((Below.refl _ w).alloc (Nat.le_refl _) _)
  have B1 : Hid (Below w.heap.size w w1) := Lib.hid (BW.out.trans (b1.mono BW.out.size))
  have O1 := Lib.hid (own_later o1)
  obtain ⟨a1, c1, rfl⟩ := ownS_slice o1
  clear o1 b1 BW
  go_wp2_with fail
  refine (HAN.out w1 B1.out y).mono ?_
  rw [HB.out]
  rintro e w2 ⟨v2, rfl, o2, b2⟩
  have BW : Hid (Below w1.heap.size w1 (w1.alloc (.cells #[.string ⟨y.toArray⟩] 9))) := Lib.hid ((Below.refl _ w1).alloc (Nat.le_refl _) _)
  have B12 : Hid (Below w1.heap.size w1 w2) := Lib.hid (BW.out.trans (b2.mono BW.out.size))
  have B2 : Hid (Below w.heap.size w w2) := Lib.hid (B1.out.trans (B12.out.mono B1.out.size))
  have O2 := Lib.hid (own_later o2)
  have O12 : Hid (∀ W, Below w2.heap.size w2 W → StrsC (fun k => k < W.heap.size) W (.slice a1 A.length c1) A) := Lib.hid (fun W hW => O1.out W (B12.out.trans (hW.mono B12.out.size)))
  obtain ⟨a2, c2, rfl⟩ := ownS_slice o2
  have hs2 := B2.out.size
  clear o2 b2 BW O1 B12 B1
  go_wp2_with fail
  go_loopw [9, 10] (fun o i wr => ∃ k : Nat, k ≤ A.length ∧ i = .int .i64 k ∧ Hid (OwnS wr w2.heap.size o (bothA g x y k)) ∧ Hid (Below w2.heap.size w2 wr)) (fun _ i _ => A.length - (intOf i).toNat)
  case atStart => exact ⟨0, Nat.zero_le _, rfl, Lib.hid (by rw [HB0.out]; exact ownS_nil _ _), Lib.hid (Below.refl _ _)⟩
  case round =>
    obtain ⟨k, hk, rfl, hO, hBl⟩ := hrel
    have hsz := hBl.out.size
    have hpk := HLB.out k
    obtain ⟨oa, oc, rfl⟩ := ownS_slice hO.out
    by_cases hlt : k < A.length
    · obtain ⟨rg, ro, rfl, _, _, _, hc⟩ := (O12.out wr hBl.out).at (by omega)
      have c1' := hc k hlt
      have HT := Lib.hid (HBS.out k hlt)
      have HI := in_any _ (.slice a2 B.length c2) B (A.getD k []) wr (O2.out wr hBl.out) (by omega)
      obtain ⟨r, hr⟩ : ∃ r, decide (A.getD k [] ∈ B) = r := ⟨_, rfl⟩
      rw [hr] at HI HT
      have HI2 := Lib.hid HI
      clear hc HI hr
      generalize A.getD k [] = z at *
      generalize bothA g x y k = d at *
      go_wp2_with fail
      refine HI2.out.mono ?_
      rintro e w4 ⟨rfl, rfl⟩
      cases r
      · have HT2 : Hid (bothA g x y (k + 1) = d) := Lib.hid (by rw [HT.out]; simp)
        clear HT
        go_wp2_with fail
        go_roundw
        case rel => exact ⟨k + 1, by omega, by go_num, by rw [HT2.out]; exact hO, hBl⟩
        case measure => simp [intOf]; omega
      · have HT2 : Hid (bothA g x y (k + 1) = d ++ [z]) := Lib.hid (by rw [HT.out]; simp)
        clear HT
        go_wp2_with (at_builtin; refine wpList_own_src _ rfl _ _ 23 23 rfl w2.heap.size 9 i0 (.string ByteArray.empty) 1 16 Try.underlying23 hi hz0 hz1 hz2 rfl (by decide) _ _ _ rfl (World.ownsRow.alloc hO.out _) _ 1 [.string ⟨z.toArray⟩] rfl (srcS_one _ _) (by unfold maxLen; omega) (by omega) (by simp; omega) ?_)
        intro v5 w5 hown5 hg5
        have O5 : Hid (OwnS w5 w2.heap.size v5 (d ++ [z])) := Lib.hid (ownS_push hown5)
        have B5 : Hid (Below w2.heap.size w2 w5) := Lib.hid ((hBl.out.alloc hBl.out.size _).grown hg5.gb (by simp; omega) (fun q hq => (World.ownsRow.lt hO.out q hq).1))
        clear hown5 hg5
        go_wp2_with fail
        go_roundw
        case rel => exact ⟨k + 1, by omega, by go_num, by rw [HT2.out]; exact O5, B5⟩
        case measure => simp [intOf]; omega
    · have hkk : k = A.length := by omega
      subst hkk
      have HBB : Hid (Below w.heap.size w wr) := Lib.hid (B2.out.trans (hBl.out.mono hs2))
      have HO2 := Lib.hid (own_later hO.out wr (Below.refl _ _))
      have htl := HTL.out (bothA g x y A.length) (bothA g x y A.length).length
      have HTT := Lib.hid (HTI.out wr HBB.out _ (.slice oa (bothA g x y A.length).length oc) (bothA g x y A.length) (fun _ hq => hq) HO2.out (by omega))
      generalize bothA g x y A.length = d at *
      go_wp2_with fail
      refine HTT.out.mono ?_
      rintro e w5 ⟨v5, rfl, s5, b5⟩
      have S5 := Lib.hid s5
      have B5 : Hid (Below w.heap.size w w5) := Lib.hid (HBB.out.trans (b5.mono HBB.out.size))
      clear s5 b5
      go_wp2_with fail
      go_ret
      exact ⟨_, _, rfl, S5.out, HIS.out, by omega, B5.out⟩
end Go.Proofs.Ytfphkbbgbfnhaaa
