/- means: one way back. -/
import Derived.Test.YthigepjddfdbmaaDoorGlobG
import Derived.Test.YthigepjddfdbmaaDoorGlobA
namespace Go.Proofs.YthigepjddfdbmaaDoor
open Go.RowKit Go.Lib

/-- A sign as an item. -/
def sItem (x : Option S4) : Option (UInt8 → Bool) := x.map (fun s c => hasS s c.toNat)
def itemsS (l : List (Option S4)) : List (Option (UInt8 → Bool)) := l.map sItem
theorem itemsS_at {l : List (Option S4)} {k : Nat} (h : k < l.length) : (itemsS l)[k]? = some (sItem (l.getD k none)) := by
  unfold itemsS; simp [List.getD, List.getElem?_eq_getElem h]
theorem itemsS_len (l : List (Option S4)) : (itemsS l).length = l.length := by unfold itemsS; simp
theorem SignsC.at {S : Nat → Prop} {w : World} {a : Option Addr} {c : Nat} {l : List (Option S4)} (h : SignsC S w (.slice a l.length c) l) (hn : 0 < l.length) :
    ∃ g o, a = some ⟨g, o, none⟩ ∧ S g ∧ l.length ≤ c ∧ c ≤ 9223372036854775807 ∧ ∀ k, k < l.length → (∀ s, l.getD k none = some s → s.Ok) ∧ ∀ i x, (signCells (l.getD k none))[i]? = some x → w.cell? ⟨g, o + k * 5 + i, none⟩ = some x := by
  obtain ⟨g, o, h1, h2, h3, h4, h5⟩ := RowsC.at h hn
  refine ⟨g, o, h1, h2, h3, h4, fun k hk => ?_⟩
  have he : l[k]? = some (l.getD k none) := by simp [List.getD, hk]
  obtain ⟨cs, _, ⟨rfl, h7⟩, h8⟩ := h5 k _ he
  exact ⟨h7, fun i x hx => by rw [Nat.add_assoc]; exact h8 i x hx⟩
theorem star_cell (x : Option S4) : (signCells x)[0]? = some (.bool x.isNone) := by cases x <;> rfl
/-- How much is left to do. -/
def mN (n m P s i : Nat) : Nat := (n + 2 - P) * (m + n + 2) + ((m - s) + (n - i))
theorem mN_near {n m P P' s s' i i' : Nat} (h1 : P ≤ P') (h2 : (m - s') + (n - i') < (m - s) + (n - i)) : mN n m P' s' i' < mN n m P s i := by
  unfold mN
  have : (n + 2 - P') * (m + n + 2) ≤ (n + 2 - P) * (m + n + 2) := Nat.mul_le_mul_right _ (by omega)
  omega
theorem mN_far {n m P P' s s' i i' : Nat} (h1 : P < P') (h2 : P' ≤ n + 2) : mN n m P' s' i' < mN n m P s i := by
  unfold mN
  have h3 : (n + 2 - P') * (m + n + 2) + (m + n + 2) ≤ (n + 2 - P) * (m + n + 2) := by
    rw [← Nat.succ_mul]
    exact Nat.mul_le_mul_right _ (by omega)
  omega
def placeP (b u : Value) : Nat := if intOf b < 0 then 0 else (intOf u).toNat + 1
/-- The slot that tells where to go back to. -/
def backV (b : Option Nat) (q : Int) : Prop := (b = none ∧ q = -1) ∨ ∃ k : Nat, b = some k ∧ q = (k : Int)
/-- It answers whether this is so. -/
def TruthP (P : Prop) (w : World) (e : Ending) (w' : World) : Prop := ∃ r, e = .returned (.bool r) ∧ (r = true ↔ P) ∧ Below w.heap.size w w'
set_option maxRecDepth 100000 in
set_option maxHeartbeats 8000000 in
theorem means_any (S : Nat → Prop) (mb : Bool) (a : Option Addr) (cp : Nat) (l : List (Option S4)) (name : Txt) (w : World) (hS : ∀ k, S k → k < w.heap.size) (h : SignsC S w (.slice a l.length cp) l) (hl : l.length ≤ 4194304) (hn : name.length ≤ 4194304) :
    Calls Tryd.prog 50 #[.agg #[.bool mb, .slice a l.length cp], .string ⟨name.toArray⟩] w (TruthP (Mt (itemsS l) name) w) := by
  have hk := new_five w #[.bool mb, .slice a l.length cp] 74
  have BX : Hid (Below w.heap.size w (w.alloc (.cells #[.bool mb, .slice a l.length cp] 74))) := Lib.hid ((Below.refl _ w).alloc (Nat.le_refl _) _)
  have hsx : w.heap.size < (w.alloc (.cells #[.bool mb, .slice a l.length cp] 74)).heap.size := by simp
  have HK := Lib.hid hk
  have H := Lib.hid (fun (W : World) (hb : Below w.heap.size w W) => RowsC.kept sign_keeps h (S' := S) (w' := W) (fun k hk => ⟨hk, hb.block k (hS k hk)⟩))
  have HWY : Hid (Way (itemsS l) name 0 0 none 0) := Lib.hid Way.start
  clear h hk
  go_enter Tryd.func50, Tryd.ntmps50
  go_wp2_with fail
  generalize w.alloc (.cells #[.bool mb, .slice a l.length cp] 74) = wx at *
  obtain ⟨bx, hbx⟩ : ∃ q, w.heap.size = q := ⟨_, rfl⟩
  have HBX := Lib.hid hbx
  have HQ : Hid (∀ W, Below wx.heap.size wx W → W.cell? ⟨bx, 1, none⟩ = some (.slice a l.length cp)) := Lib.hid (fun W hW => by
    rw [← hbx]
    have := (hW.block w.heap.size hsx).trans HK.out
    rw [cell_of_row _ _ _ _ _ _ this]; rfl)
  have HW : Hid (∀ W, Below wx.heap.size wx W → Below w.heap.size w W) := Lib.hid (fun W hW => BX.out.trans (hW.mono BX.out.size))
  have hwx : w.heap.size ≤ wx.heap.size := BX.out.size
  rw [hbx]
  clear hbx HK hsx BX hS
  go_loopw [5, 6, 7, 8] (fun s i b u wr => ∃ (sn ii un : Nat) (bb : Option Nat) (q : Int), s = .int .i64 sn ∧ i = .int .i64 ii ∧ b = .int .i64 q ∧ u = .int .i64 un ∧ backV bb q ∧ Hid (Way (itemsS l) name sn ii bb un) ∧ Hid (Below wx.heap.size wx wr)) (fun s i b u _ => mN name.length l.length (placeP b u) (intOf s).toNat (intOf i).toNat)
  case atStart => exact ⟨0, 0, 0, none, -1, rfl, rfl, rfl, rfl, Or.inl ⟨rfl, rfl⟩, HWY, Lib.hid (Below.refl _ _)⟩
  case round =>
    obtain ⟨sn, ii, un, bb, q, rfl, rfl, rfl, rfl, hbq, hWy, hB⟩ := hrel
    have hsl := hWy.out.hs
    rw [itemsS_len] at hsl
    have hil := hWy.out.hi
    have c1 := HQ.out wr hB.out
    have HPL : Hid ((q = -1 ∧ placeP (.int .i64 q) (.int .i64 (un : Int)) = 0) ∨ (0 ≤ q ∧ placeP (.int .i64 q) (.int .i64 (un : Int)) = un + 1 ∧ un ≤ ii)) := Lib.hid (by
      rcases hbq with ⟨h1, h2⟩ | ⟨k, h1, h2⟩
      · left; subst h2; exact ⟨rfl, rfl⟩
      · right
        have := (hWy.out.back k h1).2.1
        refine ⟨by omega, ?_, by omega⟩
        unfold placeP
        rw [if_neg (by simp [intOf]; omega)]
        simp [intOf])
    by_cases hlt : ii < name.length
    · by_cases hsm : sn < l.length
      · obtain ⟨g, o, rfl, _, hc1, hc2, hat⟩ := SignsC.at (H.out wr (HW.out wr hB.out)) (by omega)
        obtain ⟨hok, hcs⟩ := hat sn hsm
        have hit := itemsS_at hsm
        have d0 := hcs 0 _ (star_cell _)
        rw [Nat.add_zero] at d0
        have HCS := Lib.hid hcs
        have HOK := Lib.hid hok
        have HIT := Lib.hid hit
        clear hat hcs hok hit
        cases hx : l.getD sn none with
        | none =>
          rw [hx] at d0 HIT
          have hW2 : Hid (Way (itemsS l) name (sn + 1) ii (some (sn + 1)) ii) := Lib.hid (hWy.out.star HIT.out)
          simp only [Option.isNone_none] at d0
          clear hx
          go_wp2_with fail
          go_roundw
          case rel => exact ⟨sn + 1, ii, ii, some (sn + 1), ((sn + 1 : Nat) : Int), by go_num, rfl, by go_num, rfl, Or.inr ⟨_, rfl, rfl⟩, hW2, hB⟩
          case measure =>
            have hp := HPL.out
            rcases hp with ⟨hp1, hp2⟩ | ⟨hp1, hp2, _⟩
            · exact mN_near (by rw [hp2]; omega) (by simp [intOf]; omega)
            · refine mN_near ?_ (by simp [intOf]; omega)
              rw [hp2]
              have h0 : ¬ ((sn : Int) + 1 < 0) := by omega
              (simp [placeP, intOf, h0] <;> omega)
        | some s =>
          rw [hx] at d0 HIT HCS HOK
          simp only [Option.isNone_some] at d0
          have hI := fun W => str_at W name ii hlt
          have hch : name[ii]? = some (name.getD ii 0) := by simp [List.getD, hlt]
          have hnc := (name.getD ii 0).toNat_lt
          have HH := Lib.hid (has_any s (name.getD ii 0).toNat (wr.drewN 1) (HOK.out s rfl) hnc)
          have e0 := HCS.out 1 _ rfl
          have e1 := HCS.out 2 _ rfl
          have e2 := HCS.out 3 _ rfl
          have e3 := HCS.out 4 _ rfl
          obtain ⟨hb, hhb⟩ : ∃ r, hasS s (name.getD ii 0).toNat = r := ⟨_, rfl⟩
          rw [hhb] at HH
          have HHB := Lib.hid hhb
          have HCH := Lib.hid hch
          clear hx hhb hch hnc HCS HOK
          generalize name.getD ii 0 = ch at *
          go_wp2_with fail
          clear d0
          go_still_tail 15, (by kernel_rfl)
          change wpList _ _ _ _ _ (wr.drewN 1)
          have hB2 : Hid (Below wx.heap.size wx (wr.drewN 1)) := Lib.hid (hB.out.trans (drewn _ _ _))
          clear c1 e0 e1 e2 e3 hI
          generalize wr.drewN 1 = wd at *
          have HH2 := HH.out
          unfold S4.cells at HH2
          have HH3 := Lib.hid HH2
          clear HH2 HH
          go_wp2_with fail
          refine HH3.out.mono ?_
          rintro e w5 ⟨rfl, hb5⟩
          have B5 : Hid (Below wx.heap.size wx w5) := Lib.hid (hB2.out.trans (hb5.mono hB2.out.size))
          clear hb5
          cases hb
          · have hno : ¬ Mt ((itemsS l).drop sn) (name.drop ii) := no_way (Or.inr ⟨_, HIT.out, HHB.out⟩) HCH.out
            rcases hbq with ⟨h1, h2⟩ | ⟨k, h1, h2⟩
            · subst h1 h2
              have hst : Hid (¬ Mt (itemsS l) name) := Lib.hid (hWy.out.stuck hno)
              clear hno
              go_wp2_with fail
              go_ret
              exact ⟨false, rfl, ⟨fun h => (by cases h), fun h => absurd h hst.out⟩, HW.out _ B5.out⟩
            · subst h1 h2
              have hW2 := Lib.hid (hWy.out.again hlt hno)
              have hul := (hWy.out.back k rfl).2.1
              have HP2 : Hid (un + 1 ≤ name.length) := Lib.hid (by omega)
              have HPU : Hid (placeP (.int .i64 (k : Int)) (.int .i64 (un : Int)) = un + 1) := Lib.hid (by
                unfold placeP; rw [if_neg (by simp [intOf])]; simp [intOf])
              have hun : un ≤ 4194304 := by omega
              clear hno hul
              go_wp2_with fail
              go_roundw
              case rel => exact ⟨k, un + 1, un + 1, some k, (k : Int), rfl, by go_num, rfl, by go_num, Or.inr ⟨_, rfl, rfl⟩, hW2, B5⟩
              case measure =>
                have h2 := HP2.out
                refine mN_far ?_ ?_
                · rw [HPU.out]; have h0 : ¬ ((k : Int) < 0) := by omega
                  (simp [placeP, intOf, h0] <;> omega)
                · have h0 : ¬ ((k : Int) < 0) := by omega
                  (simp [placeP, intOf, h0] <;> omega)
          · have hW2 : Hid (Way (itemsS l) name (sn + 1) (ii + 1) bb un) := Lib.hid (hWy.out.one HIT.out HCH.out HHB.out)
            go_wp2_with fail
            go_roundw
            case rel => exact ⟨sn + 1, ii + 1, un, bb, q, by go_num, by go_num, rfl, rfl, hbq, hW2, B5⟩
            case measure => exact mN_near (Nat.le_refl _) (by simp [intOf]; omega)
      · have hge : sn = l.length := by omega
        have hno : ¬ Mt ((itemsS l).drop sn) (name.drop ii) := no_way (a := name.getD ii 0) (Or.inl (by rw [List.getElem?_eq_none_iff, itemsS_len]; omega)) (by simp [List.getD, hlt])
        rcases hbq with ⟨h1, h2⟩ | ⟨k, h1, h2⟩
        · subst h1 h2
          have hst : Hid (¬ Mt (itemsS l) name) := Lib.hid (hWy.out.stuck hno)
          clear hno
          go_upto_region 8 with fail
          go_quiet (fail)
          have hB2 : Hid (Below wx.heap.size wx (wr.drewN nq)) := Lib.hid (hB.out.trans (drewn _ _ _))
          go_wp2_with fail
          go_ret
          exact ⟨false, rfl, ⟨fun h => (by cases h), fun h => absurd h hst.out⟩, HW.out _ hB2.out⟩
        · subst h1 h2
          have hW2 := Lib.hid (hWy.out.again hlt hno)
          have hul := (hWy.out.back k rfl).2.1
          have HP2 : Hid (un + 1 ≤ name.length) := Lib.hid (by omega)
          have HPU : Hid (placeP (.int .i64 (k : Int)) (.int .i64 (un : Int)) = un + 1) := Lib.hid (by
            unfold placeP; rw [if_neg (by simp [intOf])]; simp [intOf])
          have hun : un ≤ 4194304 := by omega
          clear hno hul
          go_upto_region 8 with fail
          go_quiet (fail)
          have B5 : Hid (Below wx.heap.size wx (wr.drewN nq)) := Lib.hid (hB.out.trans (drewn _ _ _))
          clear c1
          generalize wr.drewN nq = wd at *
          go_wp2_with fail
          go_roundw
          case rel => exact ⟨k, un + 1, un + 1, some k, (k : Int), rfl, by go_num, rfl, by go_num, Or.inr ⟨_, rfl, rfl⟩, hW2, B5⟩
          case measure =>
            have h2 := HP2.out
            refine mN_far ?_ ?_
            · rw [HPU.out]; have h0 : ¬ ((k : Int) < 0) := by omega
              (simp [placeP, intOf, h0] <;> omega)
            · have h0 : ¬ ((k : Int) < 0) := by omega
              (simp [placeP, intOf, h0] <;> omega)
    · have hie : ii = name.length := by omega
      have HMT : Hid (Mt (itemsS l) name ↔ ∀ j, sn ≤ j → j < l.length → (itemsS l)[j]? = some none) := Lib.hid (by
        have h1 := hWy.out
        rw [hie] at h1
        rw [h1.done, stars_left (by rw [itemsS_len]; exact hsl), itemsS_len])
      clear hie
      go_wp2_with fail
      go_loop [5] (fun s => ∃ k : Nat, sn ≤ k ∧ k ≤ l.length ∧ s = .int .i64 k ∧ Hid (∀ j, sn ≤ j → j < k → (itemsS l)[j]? = some none)) (fun s => l.length - (intOf s).toNat)
      case atStart => exact ⟨sn, Nat.le_refl _, hsl, rfl, Lib.hid (fun j h1 h2 => by omega)⟩
      case round =>
        obtain ⟨k, hk1, hk2, rfl, hall⟩ := hrel
        by_cases hkm : k < l.length
        · obtain ⟨g, o, rfl, _, hc1, hc2, hat⟩ := SignsC.at (H.out wr (HW.out wr hB.out)) (by omega)
          obtain ⟨_, hcs⟩ := hat k hkm
          have hit := itemsS_at hkm
          have d0 := hcs 0 _ (star_cell _)
          rw [Nat.add_zero] at d0
          have HIT := Lib.hid hit
          clear hat hcs hit
          cases hx : l.getD k none with
          | none =>
            rw [hx] at d0 HIT
            simp only [Option.isNone_none] at d0
            have HALL : Hid (∀ j, sn ≤ j → j < k + 1 → (itemsS l)[j]? = some none) := Lib.hid (fun j h1 h2 => by
              by_cases e : j = k
              · subst e; exact HIT.out
              · exact hall.out j h1 (by omega))
            clear hx
            go_wp2_with fail
            go_round
            case rel => exact ⟨k + 1, by omega, by omega, by go_num, HALL⟩
            case measure => simp [intOf]; omega
          | some s =>
            rw [hx] at d0 HIT
            simp only [Option.isNone_some] at d0
            have HNO : Hid (¬ Mt (itemsS l) name) := Lib.hid (fun h => by
              have := HMT.out.1 h k hk1 hkm
              rw [HIT.out] at this
              cases this)
            have ge : ((k : Int) == (l.length : Int)) = false := by rw [beq_eq_false_iff_ne]; omega
            clear hx
            go_wp2_with fail
            go_ret
            exact ⟨false, rfl, ⟨fun h => (by cases h), fun h => absurd h HNO.out⟩, HW.out _ hB.out⟩
        · have HYES : Hid (Mt (itemsS l) name) := Lib.hid (HMT.out.2 (fun j h1 h2 => hall.out j h1 (by omega)))
          have ge : ((k : Int) == (l.length : Int)) = true := by rw [beq_iff_eq]; omega
          go_wp2_with fail
          go_ret
          exact ⟨true, rfl, ⟨fun _ => HYES.out, fun _ => rfl⟩, HW.out _ hB.out⟩
end Go.Proofs.YthigepjddfdbmaaDoor
