/- Outcomes that lie under others are marked: block. -/
import Derived.Test.YtjlpdoppnhcjoaaDoorJnH
namespace Go.Proofs.YtjlpdoppnhcjoaaDoor
open Go.RowKit Go.Lib
attribute [local simp high] files_size outcome_size id_size n135_ne n138_ne n32_ne n34_ne outcome_zero
theorem OwnR.on {E : Type} {rel : (Nat → Prop) → World → E → List Value → Prop} (hr : Keeps rel) {t : TypeId} {sz B : Nat} {S : Nat → Prop} {w w' : World} {v : Value} {css : List (List Value)} {es : List E} (h : OwnR rel t sz S w B v css es) (hk : ∀ q, q < w.heap.size → B ≤ q ∨ S q → w'.heap[q]? = w.heap[q]?) (hs : w.heap.size ≤ w'.heap.size) : OwnR rel t sz S w' B v css es := by
  refine ⟨⟨h.own.1, ?_⟩, h.len, h.each, h.one, fun j e cs he hc => hr _ _ _ _ _ _ (h.reads j e cs he hc) (fun k hk2 => ⟨⟨hk2.1, Nat.lt_of_lt_of_le hk2.2.1 hs, hk2.2.2⟩, hk k hk2.2.1 (Or.inr hk2.1)⟩)⟩
  rcases h.own.2 with h2 | ⟨g, cap, cur, h1, h2, h3, h4⟩
  · exact Or.inl h2
  · exact Or.inr ⟨g, cap, cur, h1, h2, (hk g (Array.getElem?_eq_some_iff.1 h3).1 (Or.inl h2)).trans h3, h4⟩
def pathO (l : List OutM) (i : Nat) : List UInt8 := (l.getD i noneM).1.path
/-- The last path that is not blocked, of the first k. -/
def freeN (l : List OutM) : Nat → List UInt8
  | 0 => []
  | k + 1 => if (decide (0 < k) && underB (pathO l k) (freeN l k)) = true then freeN l k else pathO l k
def markB (l : List OutM) (k : Nat) : Bool := decide (0 < k) && underB (pathO l k) (freeN l k)
def blk (m : OutM) : OutM := ({ m.1 with kind := 4 }, m.2)
/-- The outcomes, the first k of them marked. -/
def upL (l : List OutM) : Nat → List OutM
  | 0 => l
  | k + 1 => if markB l k = true then (upL l k).set k (blk (l.getD k noneM)) else upL l k
theorem upL_len (l : List OutM) : ∀ k, (upL l k).length = l.length
  | 0 => rfl
  | k + 1 => by
    unfold upL
    split
    · rw [List.length_set]; exact upL_len l k
    · exact upL_len l k
theorem upL_at (l : List OutM) : ∀ k j, k ≤ j → (upL l k).getD j noneM = l.getD j noneM
  | 0, _, _ => rfl
  | k + 1, j, h => by
    unfold upL
    split
    · rw [← upL_at l k j (by omega)]
      simp only [List.getD]
      rw [List.getElem?_set_ne (by omega)]
    · exact upL_at l k j (by omega)
theorem upL_yes {l : List OutM} {k : Nat} (h : markB l k = true) : upL l (k + 1) = (upL l k).set k (blk (l.getD k noneM)) := by rw [upL, if_pos h]
theorem upL_no {l : List OutM} {k : Nat} (h : markB l k = false) : upL l (k + 1) = upL l k := by rw [upL, if_neg (by rw [h]; decide)]
theorem freeN_yes {l : List OutM} {k : Nat} (h : markB l k = true) : freeN l (k + 1) = freeN l k := by unfold markB at h; rw [freeN, if_pos h]
theorem freeN_no {l : List OutM} {k : Nat} (h : markB l k = false) : freeN l (k + 1) = pathO l k := by unfold markB at h; rw [freeN, if_neg (by rw [h]; decide)]
theorem row_kind (o : OutN) : (rowL n135 (outF o)).set 1 (.int .i64 4) = rowL n135 (outF { o with kind := 4 }) := by
  refine rowL_ext (by rw [List.length_set, rowL_len]) (fun j hj => ?_)
  rw [List.getElem?_set, rowL_len]
  by_cases e : 1 = j
  · subst e; rw [if_pos rfl, if_pos hj]; rfl
  · rw [if_neg e, rowL_at _ hj]
    have e2 : ¬ j = 1 := fun x => e x.symm
    unfold outF
    simp only [if_neg e2]
set_option maxRecDepth 100000 in
set_option maxHeartbeats 8000000 in
theorem block_own (S : Nat → Prop) (B g cap : Nat) (l : List OutM) (css : List (List Value)) (w : World) (h : OwnR outRel 42 n135 S w B (.slice (some ⟨g, 0, none⟩) l.length cap) css l) (hl : l.length ≤ 4194304) (hg : g < w.heap.size) :
    Calls Tryd.prog 26 #[.slice (some ⟨g, 0, none⟩) l.length cap] w fun e w' => e = .returned (.tuple #[]) ∧ (∃ css', OwnR outRel 42 n135 S w' B (.slice (some ⟨g, 0, none⟩) l.length cap) css' (upL l l.length)) ∧ w.grownBy w' (some g) := by
  have H := Lib.hid h
  clear h
  go_enter Tryd.func26, Tryd.ntmps26
  go_wp2_with fail
  go_loopw [2, 7] (fun f i wr => ∃ (k : Nat) (css : List (List Value)), k ≤ l.length ∧ i = .int .i64 (k : Int) ∧ f = .string ⟨(freeN l k).toArray⟩ ∧ Hid (OwnR outRel 42 n135 S wr B (.slice (some ⟨g, 0, none⟩) l.length cap) css (upL l k)) ∧ Hid (w.grownBy wr (some g))) (fun _ i _ => l.length - (intOf i).toNat)
  case atStart => exact ⟨0, css, Nat.zero_le _, rfl, rfl, H, Lib.hid (World.grownBy.refl _ _)⟩
  case round =>
    obtain ⟨k, cs, hk, rfl, rfl, hO, hG⟩ := hrel
    by_cases hlt : k < l.length
    · have hul := upL_len l k
      have hr := (hO.out.rows out_keeps)
      have hO2 := hO.out
      rw [← hul] at hr hO2
      obtain ⟨g2, o2, e2, _, _, _, hat⟩ := OutsC.at hr (by omega)
      injection e2 with e2; injection e2 with e2 e3 _
      subst e2 e3
      obtain ⟨hb, hck⟩ := hat k (by omega)
      rw [upL_at l k k (Nat.le_refl _)] at hb hck
      simp only [Nat.zero_add] at hck
      have h1 := out_one _ (tv_one hb) n135
      have hcl : cs.length = (upL l k).length := hO.out.len
      obtain ⟨c0, hc0⟩ : ∃ c, cs[k]? = some c := ⟨cs[k]'(by omega), List.getElem?_eq_getElem (by omega)⟩
      have hrl := hO2.reads k (l.getD k noneM) c0 (by rw [← upL_at l k k (Nat.le_refl _)]; simp [List.getD, show k < (upL l k).length by omega]) hc0
      have hc0e : c0 = rowL n135 (outF (l.getD k noneM).1) := hrl.1
      have c1 := load_row wr g (k * n135) n135 (outF (l.getD k noneM).1) (fun j hj => hck j (by unfold n135 at hj; exact hj))
      have i1 := RF.new wr 42 n135 (outF noOut)
      have c2 := i1.write h1
      have HI := Lib.hid (i1.put (outF (l.getD k noneM).1))
      have HW := Lib.hid (below_setRow ((Below.refl wr.heap.size wr).alloc (Nat.le_refl _) (.cells (rowL n135 (outF noOut)).toArray 42)) (Nat.le_refl _) (rowL n135 (outF (l.getD k noneM).1)).toArray)
      have hol := rowL_len n135 (outF (l.getD k noneM).1)
      have hol2 := rowL_len n135 (outF noOut)
      have hgr : g < wr.heap.size := Nat.lt_of_lt_of_le hg hG.out.size
      have HCK : Hid (wr.cell? ⟨g, k * n135 + 1, none⟩ = some (outF (l.getD k noneM).1 1)) := Lib.hid (hck 1 (by omega))
      have HO2 := Lib.hid hO2
      have HRL := Lib.hid hrl
      have HC0 := Lib.hid hc0
      have HC0E := Lib.hid hc0e
      have HUL := Lib.hid hul
      have HPO : Hid (pathO l k = (l.getD k noneM).1.path) := Lib.hid rfl
      have HMK : Hid (markB l k = (decide (0 < k) && underB (pathO l k) (freeN l k))) := Lib.hid rfl
      have HUY := Lib.hid (fun h => upL_yes (l := l) (k := k) h)
      have HUN := Lib.hid (fun h => upL_no (l := l) (k := k) h)
      have HFY := Lib.hid (fun h => freeN_yes (l := l) (k := k) h)
      have HFN := Lib.hid (fun h => freeN_no (l := l) (k := k) h)
      clear hck i1 h1 hrl hc0 hc0e hul hcl hb hO2 hr hO
      generalize l.getD k noneM = m at *
      go_upto_region 4 with fail
      clear c1 c2 hol hol2
      generalize (wr.alloc (.cells (rowL n135 (outF noOut)).toArray 42)).setRow wr.heap.size (rowL n135 (outF m.1)).toArray = w5 at *
      have c0' : w5.cell? ⟨wr.heap.size, 0, none⟩ = some (.string ⟨m.1.path.toArray⟩) := HI.out.cell (k := 0) (by unfold n135; omega)
      have HO5 := Lib.hid (HO2.out.on out_keeps (fun q hq _ => HW.out.block q hq) HW.out.size)
      have HG5 : Hid (w.grownBy w5 (some g)) := Lib.hid (gbt hG.out (gbb HW.out _))
      have s5 : w5.cell? ⟨g, k * n135 + 1, none⟩ = some (outF m.1 1) := (World.cell?_of_block (w := wr) (HW.out.block g hgr)).trans HCK.out
      have f5 : w5.frozen? ⟨g, k * n135 + 1, none⟩ = false := HO5.out.own.frozenAt _
      have HSET : Hid (OwnR outRel 42 n135 S (w5.setCell ⟨g, k * n135 + 1, none⟩ (.int .i64 4)) B (.slice (some ⟨g, 0, none⟩) l.length cap) (cs.set k (c0.set 1 (.int .i64 4))) ((upL l k).set k (blk m))) := Lib.hid (by
        have hr5 : outRel (fun q => S q ∧ q < w5.heap.size ∧ q ≠ g) w5 m c0 := out_keeps _ _ _ _ _ _ HRL.out (fun q hq => ⟨⟨hq.1, Nat.lt_of_lt_of_le hq.2.1 HW.out.size, fun e => hq.2.2 (by rw [e]; rfl)⟩, HW.out.block q hq.2.1⟩)
        have h9 := OwnR.set_cell out_keeps HO5.out HC0.out (show 1 < n135 by unfold n135; omega) (u := .int .i64 4) rfl (e := blk m) ⟨by rw [HC0E.out]; exact row_kind _, hr5.2⟩
        rw [List.length_set, HUL.out] at h9
        exact h9)
      have HGS : Hid (w.grownBy (w5.setCell ⟨g, k * n135 + 1, none⟩ (.int .i64 4)) (some g)) := Lib.hid (gbt HG5.out (Only.set g _ _ _).gb)
      have HOL : Hid (OwnR outRel 42 n135 S w5 B (.slice (some ⟨g, 0, none⟩) l.length cap) cs (upL l k)) := Lib.hid (by have h := HO5.out; rw [HUL.out] at h; exact h)
      have HUD := Lib.hid (under_any m.1.path (freeN l k))
      generalize outF m.1 1 = old at *
      generalize wr.heap.size = fb at c0' ⊢
      clear HI HW HCK HO2 HRL HC0 HC0E HO5 hG
      by_cases hk0 : 0 < k
      · obtain ⟨ub, hub⟩ : ∃ b, underB m.1.path (freeN l k) = b := ⟨_, rfl⟩
        have HM : Hid (markB l k = ub) := Lib.hid (by rw [HMK.out, HPO.out, hub, decide_eq_true hk0]; rfl)
        rw [hub] at HUD
        clear hub
        go_wp2_with fail
        refine (HUD.out _).mono ?_
        rintro e w6 ⟨rfl, rfl⟩
        cases ub
        · have HUP : Hid (upL l (k + 1) = upL l k) := Lib.hid (HUN.out HM.out)
          have HFP : Hid (m.1.path = freeN l (k + 1)) := Lib.hid (by rw [HFN.out HM.out, HPO.out])
          go_wp2_with fail
          go_roundw
          case rel => exact ⟨k + 1, cs, by omega, by go_num, by rw [HFP.out], Lib.hid (by rw [HUP.out]; exact HOL.out), HG5⟩
          case measure => simp [intOf]; omega
        · have HUP : Hid (upL l (k + 1) = (upL l k).set k (blk m)) := Lib.hid (HUY.out HM.out)
          have HFP : Hid (freeN l k = freeN l (k + 1)) := Lib.hid (HFY.out HM.out).symm
          go_wp2_with fail
          go_roundw
          case rel => exact ⟨k + 1, _, by omega, by go_num, by rw [HFP.out], Lib.hid (by rw [HUP.out]; exact HSET.out), HGS⟩
          case measure => simp [intOf]; omega
      · have HM : Hid (markB l k = false) := Lib.hid (by rw [HMK.out, decide_eq_false hk0]; rfl)
        have HUP : Hid (upL l (k + 1) = upL l k) := Lib.hid (HUN.out HM.out)
        have HFP : Hid (m.1.path = freeN l (k + 1)) := Lib.hid (by rw [HFN.out HM.out, HPO.out])
        go_wp2_with fail
        go_roundw
        case rel => exact ⟨k + 1, cs, by omega, by go_num, by rw [HFP.out], Lib.hid (by rw [HUP.out]; exact HOL.out), HG5⟩
        case measure => simp [intOf]; omega
    · obtain rfl : k = l.length := by omega
      go_wp2_with fail
      go_end0
      exact ⟨rfl, ⟨_, hO.out⟩, hG.out⟩
end Go.Proofs.YtjlpdoppnhcjoaaDoor
