/- The walk of object's Links. -/
import Derived.Test.YtdolonkeanlaoaaDoorObQ
namespace Go.Proofs.YtdolonkeanlaoaaDoor
open Go.RowKit
attribute [local simp high] id_size id_zero ent_size ent_zero com_size com_zero n32_ne n35_ne n36_ne

theorem chunk_err {l : List UInt8} {c : Int} : chunkR l = .error c → c ≠ 0 := by
  intro h
  unfold chunkR fieldsR at h
  cases hd : decR l with
  | error d => rw [hd] at h; injection h with h; rw [← h]; exact decR_err hd
  | ok v =>
    rw [hd] at h
    simp only [andR] at h
    cases hf : fieldsV 1 1 v with
    | error d =>
      rw [hf] at h
      injection h with h
      unfold fieldsV at hf
      split at hf
      · injection hf with hf; omega
      · split at hf
        · injection hf with hf; omega
        · cases hf
    | ok vs =>
      rw [hf] at h
      simp only at h
      unfold textR at h
      split at h
      · injection h with h; omega
      · split at h
        · injection h with h; omega
        · cases h
theorem nameR_err {v : Val} {c : Int} (h : nameR v = .error c) : c ≠ 0 := by
  unfold nameR at h
  split at h
  · injection h with h; omega
  · cases h
theorem textR_err {m : Nat} {v : Val} {c : Int} (h : textR m v = .error c) : c ≠ 0 := by
  unfold textR at h
  split at h
  · injection h with h; omega
  · split at h
    · injection h with h; omega
    · cases h
theorem numberR_err {m : Nat} {v : Val} {c : Int} (h : numberR m v = .error c) : c ≠ 0 := by
  unfold numberR at h
  split at h
  · injection h with h; omega
  · split at h
    · injection h with h; omega
    · cases h
theorem stampR_err {v : Val} {c : Int} (h : stampR v = .error c) : c ≠ 0 := by
  unfold stampR at h
  split at h
  · injection h with h; omega
  · cases h
theorem listR_err {m : Nat} {v : Val} {c : Int} (h : listR m v = .error c) : c ≠ 0 := by
  unfold listR at h
  split at h
  · injection h with h; omega
  · split at h
    · injection h with h; omega
    · cases h
theorem andR_err {α β : Type} {r : Except Int α} {f : α → Except Int β} {c : Int} (h1 : ∀ d, r = .error d → d ≠ 0) (h2 : ∀ x d, r = .ok x → f x = .error d → d ≠ 0) (h : andR r f = .error c) : c ≠ 0 := by
  cases r with
  | error d => injection h with h; rw [← h]; exact h1 d rfl
  | ok x => exact h2 x c rfl h
theorem eachR_err {α : Type} {g : Val → Except Int α} (hg : ∀ {x c}, g x = .error c → c ≠ 0) : ∀ {l : List Val} {c : Int}, eachR g l = .error c → c ≠ 0
  | [], c, h => by simp only [eachR] at h; cases h
  | x :: r, c, h => by
    simp only [eachR] at h
    refine andR_err (fun d hd => hg hd) (fun y d _ hd => ?_) h
    refine andR_err (fun d hd => eachR_err hg hd) (fun ys d _ hd => ?_) hd
    cases hd
theorem fields_err {l : List UInt8} {k n : Nat} {c : Int} (h : fieldsR l k n = .error c) : c ≠ 0 := by
  refine andR_err (fun d hd => decR_err hd) (fun v d _ hf => ?_) h
  unfold fieldsV at hf
  split at hf
  · injection hf with hf; omega
  · split at hf
    · injection hf with hf; omega
    · cases hf
theorem names_err {m : Nat} {v : Val} {c : Int} (h : namesR m v = .error c) : c ≠ 0 :=
  andR_err (fun _ hd => listR_err hd) (fun _ _ _ hd => eachR_err nameR_err hd) h
theorem blob_err {l : List UInt8} {c : Int} (h : blobR l = .error c) : c ≠ 0 := by
  refine andR_err (fun _ hd => fields_err hd) (fun vs d _ hd => ?_) h
  refine andR_err (fun _ hd => names_err hd) (fun ids d _ hd => ?_) hd
  refine andR_err (fun _ hd => numberR_err hd) (fun n d _ hd => ?_) hd
  cases hd
theorem entry_err {v : Val} {c : Int} (h : entryR v = .error c) : c ≠ 0 := by
  refine andR_err (fun _ hd => listR_err hd) (fun l d _ hd => ?_) h
  unfold entryL at hd
  split at hd
  · injection hd with hd; omega
  refine andR_err (fun _ hd => textR_err hd) (fun n d _ hd => ?_) hd
  refine andR_err (fun _ hd => nameR_err hd) (fun i d _ hd => ?_) hd
  split at hd
  · cases hd
  · refine andR_err (fun _ hd => stampR_err hd) (fun s d _ hd => ?_) hd
    cases hd
theorem tree_err {l : List UInt8} {c : Int} (h : treeR l = .error c) : c ≠ 0 := by
  refine andR_err (fun _ hd => fields_err hd) (fun vs d _ hd => ?_) h
  refine andR_err (fun _ hd => listR_err hd) (fun es d _ hd => ?_) hd
  refine andR_err (fun _ hd => eachR_err entry_err hd) (fun out d _ hd => ?_) hd
  split at hd
  · rename_i h0
    injection hd with hd; rw [← hd]; exact h0
  · cases hd
theorem com_err {l : List UInt8} {c : Int} (h : comR l = .error c) : c ≠ 0 := by
  refine andR_err (fun _ hd => fields_err hd) (fun vs d _ hd => ?_) h
  refine andR_err (fun _ hd => nameR_err hd) (fun t d _ hd => ?_) hd
  refine andR_err (fun _ hd => names_err hd) (fun ps d _ hd => ?_) hd
  split at hd
  · injection hd with hd; omega
  refine andR_err (fun _ hd => stampR_err hd) (fun s d _ hd => ?_) hd
  refine andR_err (fun _ hd => textR_err hd) (fun a d _ hd => ?_) hd
  refine andR_err (fun _ hd => textR_err hd) (fun n d _ hd => ?_) hd
  cases hd
theorem kind_err {l : List UInt8} {c : Int} (h : kindR l = .error c) : c ≠ 0 := by
  refine andR_err (fun _ hd => decR_err hd) (fun v d _ hf => ?_) h
  unfold kindV at hf
  split at hf
  · injection hf with hf; omega
  · split at hf
    · injection hf with hf; omega
    · cases hf
theorem tree_len {l : List UInt8} {x : List EntN} (h : treeR l = .ok x) : x.length ≤ 1024 := by
  obtain ⟨vs, _, h2⟩ := andR_ok h
  unfold treeL at h2
  obtain ⟨es, e1, h2⟩ := andR_ok h2
  obtain ⟨out, e2, h2⟩ := andR_ok h2
  split at h2
  · cases h2
  injection h2 with h2
  subst h2
  have := eachR_len e2
  have := (listR_ok e1).2.2
  omega
theorem com_plen {l : List UInt8} {x : ComN} (h : comR l = .ok x) : x.parents.length ≤ 8 := by
  obtain ⟨vs, _, h2⟩ := andR_ok h
  unfold comL at h2
  obtain ⟨t, e1, h2⟩ := andR_ok h2
  obtain ⟨ps, e2, h2⟩ := andR_ok h2
  split at h2
  · cases h2
  obtain ⟨s, _, h2⟩ := andR_ok h2
  obtain ⟨a, _, h2⟩ := andR_ok h2
  obtain ⟨n, _, h2⟩ := andR_ok h2
  injection h2 with h2
  subst h2
  exact (namesR_ok e2).2.2.1
/-- The tree's id within a commit's cells. -/
theorem com_tree {X : List UInt8} (h : X.length = 32) (a : Option Addr) (n c s : Nat) (au no : List UInt8) : rowL n32 (fun j => comF X a n c s au no j) = bv X := by
  refine (rowL_ext (by rw [bv_len, h]; rfl) (fun k hk => ?_)).symm
  have hk' : k < X.length := by rw [h]; exact hk
  unfold bv
  rw [List.getElem?_map, List.getElem?_eq_getElem hk']
  have hk32 : k < 32 := hk
  unfold comF
  rw [if_pos (by omega)]
  simp [List.getD, hk']
theorem ids_one (w : World) (X : List UInt8) (hX : X.length = 32) : (w.alloc (.cells (bv X).toArray 33)).ownsRow w.heap.size 33 32 (.slice (some ⟨w.heap.size, 0, none⟩) 1 1) 1 (bv X) :=
  ⟨by rw [bv_len, hX], Or.inr ⟨w.heap.size, 1, (bv X).toArray, rfl, Nat.le_refl _, new_five w _ _, Nat.le_refl _, by unfold maxLen; omega, by rw [List.size_toArray, bv_len, hX], by rw [List.take_of_length_le (by rw [bv_len, hX]; omega)]⟩⟩
theorem linkst_none (w : World) : Calls Tryd.prog 24 #[.slice none 0 0] w fun e w' => e = .returned (.slice none 0 0) ∧ w = w' := by
  go_enter Tryd.func24, Tryd.ntmps24
  go_wp2_with fail
  go_loopw [3, 8] (fun v i wr => v = .slice none 0 0 ∧ i = .int .i64 0 ∧ w = wr) (fun _ _ _ => 0)
  case atStart => exact ⟨rfl, rfl, rfl⟩
  case round =>
    obtain ⟨rfl, rfl, rfl⟩ := hrel
    go_wp2_with fail
    go_ret
    exact ⟨rfl, rfl⟩
set_option maxRecDepth 100000 in
set_option maxHeartbeats 8000000 in
theorem links_any (S : Nat → Prop) (v : Value) (l : List UInt8) (w : World) (hS : ∀ k, S k → k < w.heap.size) (hb : BytesC S w v l) :
    Calls Tryd.prog 8 #[v] w (FaceR (IdsV w) (.slice none 0 0) w (linksR l)) := by
  have hst := run_storeF
  have HK := Lib.hid (kind_any S v l w hS hb)
  have HBY : Hid (∀ W, Below w.heap.size w W → (∀ k, S k → k < W.heap.size) ∧ BytesC S W v l) := Lib.hid (fun W hW => ⟨fun k hk => Nat.lt_of_lt_of_le (hS k hk) hW.size, hb.kept (fun k hk => ⟨hk, hW.block k (hS k hk)⟩)⟩)
  obtain ⟨sa, sc, rfl⟩ := hb.shape
  unfold linksR
  clear hb hS
  cases hk : kindR l with
  | error c =>
    rw [hk] at HK
    rw [andR_bad rfl]
    have hc0 : c ≠ 0 := kind_err hk
    have g : (c == 0) = false := by rw [beq_eq_false_iff_ne]; exact hc0
    clear hk hc0 HBY
    go_enter Tryd.func8, Tryd.ntmps8
    go_wp2_with fail
    refine HK.out.mono ?_
    rintro e w1 ⟨rfl, hb1⟩
    have HB := Lib.hid hb1
    clear hb1
    go_wp2
    go_ret2
    exact ⟨rfl, HB.out⟩
  | ok k =>
    rw [hk] at HK
    rw [andR_of rfl]
    obtain ⟨hk1, hk4⟩ := kindR_lt hk
    clear hk
    have hcase : k = 1 ∨ k = 2 ∨ k = 3 ∨ k = 4 := by omega
    rcases hcase with rfl | rfl | rfl | rfl
    · rw [if_pos rfl]
      clear hk1 hk4
      go_enter Tryd.func8, Tryd.ntmps8
      go_wp2_with fail
      refine HK.out.mono ?_
      rintro e w1 ⟨vk, rfl, rfl, hb1⟩
      have HB1 := Lib.hid hb1
      have hby := HBY.out w1 hb1
      have HC := Lib.hid (gchunk_any S _ l w1 hby.1 hby.2)
      clear hb1 hby
      obtain ⟨R, hR⟩ : ∃ R, chunkR l = R := ⟨_, rfl⟩
      rw [hR] at HC
      have HR := Lib.hid hR
      clear hR
      go_wp2_with fail
      refine HC.out.mono ?_
      intro e w2 h2
      cases R with
      | error c =>
        obtain ⟨rfl, hb2⟩ := h2
        have HB2 := Lib.hid (HB1.out.trans (hb2.mono HB1.out.size))
        clear hb2
        go_wp2_with fail
        go_ret2
        rw [HR.out]
        exact ⟨rfl, HB2.out⟩
      | ok b =>
        obtain ⟨vb, rfl, hv, hb2⟩ := h2
        have HB2 := Lib.hid (HB1.out.trans (hb2.mono HB1.out.size))
        clear hb2 hv
        go_wp2_with fail
        go_ret2
        rw [HR.out]
        exact ⟨_, rfl, ⟨World.ownsRow_nil _ _ _ _, fun y hy => by simp at hy⟩, HB2.out⟩
    · rw [if_neg (by omega), if_pos rfl]
      clear hk1 hk4
      go_enter Tryd.func8, Tryd.ntmps8
      go_wp2_with fail
      refine HK.out.mono ?_
      rintro e w1 ⟨vk, rfl, rfl, hb1⟩
      have HB1 := Lib.hid hb1
      have hby := HBY.out w1 hb1
      have HC := Lib.hid (gblob_any S _ l w1 hby.1 hby.2)
      clear hb1 hby
      obtain ⟨R, hR⟩ : ∃ R, blobR l = R := ⟨_, rfl⟩
      rw [hR] at HC
      have HR := Lib.hid hR
      clear hR
      go_wp2_with fail
      refine HC.out.mono ?_
      intro e w2 h2
      cases R with
      | error c =>
        obtain ⟨rfl, hb2⟩ := h2
        have HB2 := Lib.hid ((HB1.out.trans (hb2.mono HB1.out.size)).alloc (HB1.out.trans (hb2.mono HB1.out.size)).size (.cells #[.slice none 0 0, .int .i64 0] 60))
        clear hb2
        go_wp2_with fail
        go_ret2
        rw [HR.out]
        exact ⟨rfl, HB2.out⟩
      | ok x =>
        obtain ⟨vb, rfl, ⟨vi, rfl, hI, hn⟩, hb2⟩ := h2
        obtain ⟨ids, n⟩ := x
        obtain ⟨ia, ic, rfl⟩ := row_shape_any hI.1
        have HB2 := Lib.hid ((HB1.out.trans (hb2.mono HB1.out.size)).alloc (HB1.out.trans (hb2.mono HB1.out.size)).size (.cells #[.slice ia ids.length ic, .int .i64 n] 60))
        have HI2 : Hid (IdsV w (w2.alloc (.cells #[.slice ia ids.length ic, .int .i64 n] 60)) (.slice ia ids.length ic) ids) := Lib.hid ⟨own_base (World.ownsRow.alloc hI.1 _) HB1.out.size, hI.2⟩
        simp only at HI2 HB2 ⊢
        obtain ⟨un, hun⟩ : ∃ un, ids.length = un := ⟨_, rfl⟩
        rw [hun] at HI2 HB2 ⊢
        clear hb2 hI hn hun
        go_wp2_with fail
        go_ret2
        rw [HR.out]
        exact ⟨_, rfl, HI2.out, HB2.out⟩
    · rw [if_neg (by omega), if_neg (by omega), if_pos rfl]
      clear hk1 hk4
      go_enter Tryd.func8, Tryd.ntmps8
      go_wp2_with fail
      refine HK.out.mono ?_
      rintro e w1 ⟨vk, rfl, rfl, hb1⟩
      have HB1 := Lib.hid hb1
      have hby := HBY.out w1 hb1
      have HC := Lib.hid (gtree_any S _ l w1 hby.1 hby.2)
      clear hb1 hby
      obtain ⟨R, hR⟩ : ∃ R, treeR l = R := ⟨_, rfl⟩
      rw [hR] at HC
      have HR := Lib.hid hR
      have HLN := Lib.hid (fun l' (h : R = .ok l') => tree_len (hR.trans h))
      clear hR
      go_wp2_with fail
      refine HC.out.mono ?_
      intro e w2 h2
      cases R with
      | error c =>
        obtain ⟨rfl, hb2⟩ := h2
        have HB2 := Lib.hid (HB1.out.trans (hb2.mono HB1.out.size))
        clear hb2
        go_wp2_with fail
        refine (linkst_none w2).mono ?_
        rintro e w3 ⟨rfl, rfl⟩
        go_wp2_with fail
        go_ret2
        rw [HR.out]
        exact ⟨rfl, HB2.out⟩
      | ok x =>
        obtain ⟨vb, rfl, hv, hb2⟩ := h2
        have HB2 := Lib.hid (HB1.out.trans (hb2.mono HB1.out.size))
        have hents := own_ents hv.1
        obtain ⟨ea, ec, hev⟩ := RowsC.shape hents
        rw [hev] at hents ⊢
        have HT := Lib.hid (linkst_any _ _ x w2 (fun q hq => hq.2) hents (by have := HLN.out x rfl; omega) (fun e he => (hv.2 e he).2.1))
        clear hb2 hv hev hents
        go_wp2_with fail
        refine HT.out.mono ?_
        rintro e w3 ⟨v3, rfl, hv3, hb3⟩
        have HB3 := Lib.hid (HB2.out.trans (hb3.mono HB2.out.size))
        have HV3 := Lib.hid hv3
        obtain ⟨a3, c3, rfl⟩ := row_shape_any hv3.1
        obtain ⟨un, hun⟩ : ∃ un, (x.map EntN.id).length = un := ⟨_, rfl⟩
        rw [hun] at HV3 ⊢
        clear hb3 hv3 hun
        go_wp2_with fail
        go_ret2
        rw [HR.out]
        exact ⟨_, rfl, ⟨own_base (by have := HV3.out.1; rwa [List.length_map] at this ⊢) HB2.out.size, HV3.out.2⟩, HB3.out⟩
    · rw [if_neg (by omega), if_neg (by omega), if_neg (by omega)]
      clear hk1 hk4
      go_enter Tryd.func8, Tryd.ntmps8
      go_wp2_with fail
      refine HK.out.mono ?_
      rintro e w1 ⟨vk, rfl, rfl, hb1⟩
      have HB1 := Lib.hid hb1
      have hby := HBY.out w1 hb1
      have HC := Lib.hid (gcom_any S _ l w1 hby.1 hby.2)
      clear hb1 hby
      obtain ⟨R, hR⟩ : ∃ R, comR l = R := ⟨_, rfl⟩
      rw [hR] at HC
      have HR := Lib.hid hR
      have HER := Lib.hid (fun c (h : R = .error c) => com_err (hR.trans h))
      have HPL := Lib.hid (fun x (h : R = .ok x) => com_plen (hR.trans h))
      clear hR
      have holz := rowL_len n36 comZ
      go_wp2_with fail
      refine HC.out.mono ?_
      intro e w2 h2
      cases R with
      | error c =>
        obtain ⟨rfl, hb2⟩ := h2
        have hc0 : c ≠ 0 := HER.out c rfl
        have g : (c == 0) = false := by rw [beq_eq_false_iff_ne]; exact hc0
        have st0 := (RF.new w2 40 n36 comZ).write (com_one zeros none 0 0 0 [] [] n36)
        have HB2 := Lib.hid (below_setRow ((HB1.out.trans (hb2.mono HB1.out.size)).alloc (HB1.out.trans (hb2.mono HB1.out.size)).size (.cells (rowL n36 comZ).toArray 40)) (HB1.out.trans (hb2.mono HB1.out.size)).size (rowL n36 comZ).toArray)
        clear hb2 hc0
        go_wp2_with fail
        go_ret2
        rw [HR.out]
        exact ⟨rfl, HB2.out⟩
      | ok x =>
        obtain ⟨vb, rfl, ⟨ia, ic, rfl, hI, ht, hs⟩, hb2⟩ := h2
        have hpl := HPL.out x rfl
        obtain ⟨G, hG⟩ : ∃ G : Nat → Value, G = comF x.tree ia x.parents.length ic x.stamp x.author x.note := ⟨_, rfl⟩
        have h1 : OneC n36 G := by rw [hG]; exact com_one _ _ _ _ _ _ _ _
        rw [← hG]
        have R0 := RF.new w2 40 n36 comZ
        have st0 := R0.write h1
        have hol := rowL_len n36 G
        have hbz := HB1.out.trans (hb2.mono HB1.out.size)
        have HA : Hid (RF ((w2.alloc (.cells (rowL n36 comZ).toArray 40)).setRow w2.heap.size (rowL n36 G).toArray) w2.heap.size 40 n36 G) := Lib.hid (R0.put G)
        have HB2 := Lib.hid (below_setRow (g := w2.heap.size) (hbz.alloc hbz.size (.cells (rowL n36 comZ).toArray 40)) hbz.size (rowL n36 G).toArray)
        have HI2 : Hid (IdsV w1 ((w2.alloc (.cells (rowL n36 comZ).toArray 40)).setRow w2.heap.size (rowL n36 G).toArray) (.slice ia x.parents.length ic) x.parents) := Lib.hid ⟨row_kept hI.1 (fun q hq => (setRow_other _ _ _ _ (by have := (World.ownsRow.lt hI.1 q hq).2; omega)).trans (Below.heap_alloc _ _ _ (World.ownsRow.lt hI.1 q hq).2)), hI.2⟩
        have HG := Lib.hid hG
        have HT := Lib.hid ht
        obtain ⟨un, hun⟩ : ∃ un, x.parents.length = un := ⟨_, rfl⟩
        have HUN := Lib.hid hun
        rw [hun] at HI2 HG hpl
        have HPL2 := Lib.hid hpl
        clear hb2 hI ht hs R0 hbz hG hun h1
        go_upto_region 15 with fail
        clear st0 hol holz
        generalize (w2.alloc (.cells (rowL n36 comZ).toArray 40)).setRow w2.heap.size (rowL n36 G).toArray = w3 at *
        obtain ⟨cb, hcb⟩ : ∃ cb, w2.heap.size = cb := ⟨_, rfl⟩
        rw [hcb] at HA ⊢
        have hcl : (loadCellsFrom ⟨cb, 0, none⟩ 0 n32 #[]).run Tryd.prog w3 = .ok (bv x.tree).toArray w3 := by
          have := HA.out.load (o := 0) (m := n32) (by unfold n32 n36; omega)
          rw [← com_tree HT.out ia un ic x.stamp x.author x.note]
          rw [HG.out] at this
          simpa using this
        have hc32 : ∀ W : World, W.heap[cb]? = w3.heap[cb]? → W.cell? ⟨cb, 32, none⟩ = some (.slice ia un ic) := fun W hW => by
          have := (HA.out.kept hW).cell (k := 32) (by unfold n36; omega)
          rw [HG.out] at this
          exact this
        have hc32' := hc32 (w3.alloc (.cells (bv x.tree).toArray 33)) (Below.heap_alloc _ _ _ HA.out.lt)
        have zx : (bv x.tree).length = n32 := by rw [bv_len, HT.out]; rfl
        have hbi := fun g => build_ids (F := bv x.tree) zx g
        have hnl : (16777216 < n32) = False := by unfold n32; simp
        obtain ⟨i0, hi, hz0, hz1, hz2q⟩ := info_parts id_info
        have HSR : Hid (Src Tryd.prog 32 29 (.slice ia un ic) un (idsV x.parents) (w3.alloc (.cells (bv x.tree).toArray 33))) := Lib.hid ((own_cells (World.ownsRow.alloc (by have := HI2.out.1; rwa [HUN.out] at this) _) (idsV_one x.parents)).src Tryd.underlying29)
        clear hcb hc32
        have HZB := Lib.hid HB2.out.size
        go_wp2_with (at_builtin; refine wpList_own_src _ rfl _ _ 29 29 rfl w3.heap.size 33 i0 (.agg (bv zeros).toArray) 32 32 Tryd.underlying29 hi hz0 hz1 hz2q rfl (by decide) _ _ _ rfl (ids_one w3 x.tree HT.out) _ un (idsV x.parents) rfl HSR.out ?c3 ?c4 ?c5 ?_)
        case c3 => have := HPL2.out; unfold maxLen; omega
        case c4 => have := HPL2.out; omega
        case c5 => simp
        intro v5 w5 hown5 hg5
        have HB5 : Hid (Below w.heap.size w w5) := Lib.hid ((HB2.out.alloc HB2.out.size (.cells (bv x.tree).toArray 33)).grown hg5.gb (by have := HZB.out; simp; omega) (fun q hq => by have := (World.ownsRow.lt (ids_one w3 x.tree HT.out) q hq).1; have := HZB.out; omega))
        have HO5 : Hid (IdsV w w5 v5 (x.tree :: x.parents)) := Lib.hid ⟨own_base (by
          have e : idsV (x.tree :: x.parents) = bv x.tree ++ idsV x.parents := rfl
          rw [e, List.length_cons, HUN.out, Nat.add_comm]; exact hown5) HZB.out, fun y hy => by
            rcases List.mem_cons.1 hy with rfl | hy
            · exact HT.out
            · exact HI2.out.2 y hy⟩
        clear hown5 hg5 hcl zx hbi hnl hc32'
        go_wp2_with fail
        go_ret2
        rw [HR.out]
        exact ⟨_, rfl, HO5.out, HB5.out⟩
end Go.Proofs.YtdolonkeanlaoaaDoor
