/- The walks of Clash, and of the reference's. -/
import Derived.Test.YtplbcncbljcfmaaDoorPathT
import Derived.Test.YtplbcncbljcfmaaDoorShelg
import Derived.Lib.OwnBridge
namespace Go.Proofs.YtplbcncbljcfmaaDoor
open Go.RowKit Go.Lib Go.Sort Go.Shelf

/-- Texts that are not too long. -/
abbrev Sht := { x : Txt // x.length ≤ 4194304 }
instance : Inhabited Sht := ⟨⟨[], by decide⟩⟩
def encS (x : Sht) : Value := .string ⟨x.1.toArray⟩
def cfS (x y : Sht) : Int := cmpP x.1 y.1
theorem ltS (x y : Sht) : ltOf cfS x y = decide (cmpP x.1 y.1 < 0) := rfl
theorem swoS : SWO (ltOf cfS) where
  irrefl x := by rw [ltS, cmpP_self]; rfl
  trans x y z h1 h2 := by
    rw [ltS] at *
    simp only [decide_eq_true_eq] at *
    have a1 := cmpP_trans x.1 y.1 z.1 (by omega) (by omega)
    have a2 : cmpP x.1 z.1 ≠ 0 := fun e => by
      rw [← (cmpP_zero _ _).1 e] at h2
      have := cmpP_neg x.1 y.1
      omega
    omega
  ntrans x y z h1 h2 := by
    rw [ltS] at *
    simp only [decide_eq_false_iff_not] at *
    have n1 := cmpP_neg x.1 y.1
    have n2 := cmpP_neg y.1 z.1
    have n3 := cmpP_neg x.1 z.1
    have := cmpP_trans z.1 y.1 x.1 (by omega) (by omega)
    omega
theorem totS (x y : Sht) (h1 : ltOf cfS x y = false) (h2 : ltOf cfS y x = false) : x = y := by
  rw [ltS] at *
  simp only [decide_eq_false_iff_not] at *
  have n1 := cmpP_neg x.1 y.1
  exact Subtype.ext ((cmpP_zero _ _).1 (by omega))
theorem leS (x y : Sht) : (!ltOf cfS y x) = leP x.1 y.1 := rfl
/-- A list as one of texts that are not too long. -/
def shtL (l : List Txt) (h : ∀ x ∈ l, x.length ≤ 4194304) : List Sht := l.attachWith _ h
theorem shtL_val (l : List Txt) (h : ∀ x ∈ l, x.length ≤ 4194304) : (shtL l h).map (·.1) = l := by unfold shtL; simp
theorem shtL_enc (ys : List Sht) : ys.map encS = sv (ys.map (·.1)) := by unfold sv encS; rw [List.map_map]; rfl
theorem sort_sht (ys : List Sht) : (ys.mergeSort fun x y => !ltOf cfS y x).map (·.1) = sortP (ys.map (·.1)) := by
  unfold sortP
  exact List.map_mergeSort (r := fun x y => !ltOf cfS y x) (s := leP) (f := fun y : Sht => y.1) (fun a _ b _ => leS a b)
theorem cmpReads (blk off size : Nat) (w : World) : CmpReads Tryd.prog 37 #[] encS cfS blk off size w := fun _ _ _ _ x y => by
  refine (compare_any x.1 y.1 _ ?_ ?_).mono fun e w' ⟨he, hq⟩ => ⟨he, hq⟩
  · have := x.2; omega
  · have := y.2; omega
theorem below_grow (w : World) (os : Array Obj) : Below w.heap.size w (grow w os) := ⟨rfl, rfl, rfl, by simp [grow], fun k hk => by rw [heap_grow_old w os hk]⟩
/-- What slices.SortFunc does to texts of the call's own. -/
theorem sort_any (B : Nat) (v : Value) (l : List Txt) (w : World) (h : OwnS w B v l) (hB : B ≤ w.heap.size) (hl : l.length ≤ 4194304) (hx : ∀ x ∈ l, x.length ≤ 4194304) :
    Calls Tryd.prog 72 #[v, .func (.func 37) #[] #[]] w fun e w' => e = .returned (.tuple #[]) ∧ OwnS w' B v (sortP l) ∧ Below B w w' := by
  by_cases h0 : l = []
  · subst h0
    obtain ⟨a, c, rfl⟩ := ownS_slice h
    refine (Tryd.slices_SortFunc_none (α := Sht) a c _ w).mono fun e w' ⟨he, hw⟩ => ?_
    subst hw
    exact ⟨he, by rw [show sortP [] = [] by simp [sortP]]; exact h, Below.refl _ _⟩
  · have hne : v ≠ .slice none 0 0 := fun e => by
      subst e
      obtain ⟨a, c, e2⟩ := ownS_slice h
      injection e2 with _ e3 _
      exact h0 (List.length_eq_zero_iff.1 e3.symm)
    have hv := shtL_val l hx
    generalize shtL l hx = ys at hv
    subst hv
    have hO : w.ownsRow B 9 1 v (ys.map (·.1)).length (ys.map encS) := by rw [shtL_enc]; exact h
    obtain ⟨g, cap, hvv, hg1, hg2, hg3, hg4, hyl, hH⟩ := holds_of_ownsRow hO hne
    subst hvv
    have eg : ∀ args w, (callFunc 37 args).run Tryd.prog w = .ok (.enter 37 args) w := enters_of Tryd.func37 (by kernel_rfl) rfl
    have hsz : ys.toArray.size = (ys.map (·.1)).length := by simp
    have hc := Tryd.slices_SortFunc_total encS (fun _ => rfl) cfS swoS 37 #[] g 0 cap ys.toArray w eg (cmpReads g 0 ys.toArray.size w).lays hH hg2 (by rw [hsz]; omega) totS
    rw [hsz] at hc
    refine hc.mono fun e w' ⟨he, n, os, hw⟩ => ?_
    have hml : (ys.toArray.toList.mergeSort fun x y => !ltOf cfS y x).length = (ys.map (·.1)).length := by simp
    have hup := ownsRow_putRow (enc := encS) (q := n) (k := (ys.map (·.1)).length) (ys := ys.toArray.toList.mergeSort fun x y => !ltOf cfS y x) hO hml (Nat.le_refl _)
    rw [List.take_of_length_le (by rw [hml]; exact Nat.le_refl _), shtL_enc] at hup
    have hsm : (ys.toArray.toList.mergeSort fun x y => !ltOf cfS y x).map (·.1) = sortP (ys.map (·.1)) := by
      have := sort_sht ys
      simpa using this
    rw [hsm] at hup
    have hlen : (sortP (ys.map (·.1))).length = (ys.map (·.1)).length := (sortP_perm _).length_eq
    have hbp : Below B w (putRow encS (Sort.ahead w n) g 0 (ys.toArray.toList.mergeSort fun x y => !ltOf cfS y x).toArray) := by
      refine ⟨rfl, rfl, rfl, by simp [putRow, mapBlock, Sort.ahead], fun k hk => ?_⟩
      have : g ≠ k := by omega
      simp [putRow, mapBlock, Sort.ahead, Array.getElem?_modify, this]
    have hbg := below_grow (putRow encS (Sort.ahead w n) g 0 (ys.toArray.toList.mergeSort fun x y => !ltOf cfS y x).toArray) os
    refine ⟨he, ?_, ?_⟩
    · rw [hw]
      unfold OwnS
      rw [hlen]
      exact own_below hup (fun k _ hk => hbg.block k hk)
    · rw [hw]
      exact hbp.trans (hbg.mono (Nat.le_trans hB hbp.size))
end Go.Proofs.YtplbcncbljcfmaaDoor
