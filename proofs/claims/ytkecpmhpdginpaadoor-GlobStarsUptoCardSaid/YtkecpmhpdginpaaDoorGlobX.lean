/- The law GlobStars. -/
import Derived.Test.YtkecpmhpdginpaaDoorGlobW
import Derived.OrdersHeld
import Derived.Deep.RegionHeld3
import Derived.Deep.QuietTactic
import Derived.BigQuiet
namespace Go.Proofs.YtkecpmhpdginpaaDoor
open Go.RowKit Go.Lib
attribute [local go_sem] ba_app

def marksT (n : Nat) : Txt := List.replicate n 63
theorem marksT_len (n : Nat) : (marksT n).length = n := by unfold marksT; simp
theorem marksT_succ (n : Nat) : marksT (n + 1) = marksT n ++ [63] := List.replicate_succ'
theorem marksT_parse {n : Nat} (h1 : 1 ≤ n) (h2 : n ≤ 80) : parseN (marksT n) = .ok [some (mkS n)] := mark_parse h1 h2
set_option maxRecDepth 100000 in
set_option maxHeartbeats 8000000 in
theorem stars_law (name : Txt) (a b marks : Int) (w : World) (hE : PEnv w) (hp : name.length ≤ 1048576) :
    Calls Tryd.prog 6 #[.string ⟨name.toArray⟩, .agg #[.int .i64 a, .int .i64 b], .int .i64 marks] w fun e w' => e = .returned (.bool true) ∧ Below w.heap.size w w' := by
  have HBX : Hid (Below w.heap.size w (w.alloc (.cells #[.int .i64 a, .int .i64 b] 39))) := Lib.hid ((Below.refl _ w).alloc (Nat.le_refl _) _)
  have HE := Lib.hid (hE.on HBX.out)
  have HK := Lib.hid (new_five w #[.int .i64 a, .int .i64 b] 39)
  have HSX : Hid (w.heap.size < (w.alloc (.cells #[.int .i64 a, .int .i64 b] 39)).heap.size) := Lib.hid (by simp)
  have HAW := Lib.hid (awake_any _ HE.out)
  clear hE
  go_enter Tryd.func6, Tryd.ntmps6
  go_upto_region 1 with fail
  generalize w.alloc (.cells #[.int .i64 a, .int .i64 b] 39) = wx at *
  obtain ⟨bx, hbx⟩ : ∃ q, w.heap.size = q := ⟨_, rfl⟩
  have hk := HK.out
  have hsx := HSX.out
  rw [hbx] at hk hsx
  have HK2 := Lib.hid hk
  have HSX2 := Lib.hid hsx
  rw [hbx]
  clear hk hsx HK HSX hbx
  have HX : Hid (∀ W, Below wx.heap.size wx W → Below w.heap.size w W) := Lib.hid (fun W h => HBX.out.trans (h.mono HBX.out.size))
  go_wp2_with fail
  refine HAW.out.mono ?_
  rintro e w1 ⟨rfl, hb1⟩
  have HB1 := Lib.hid hb1
  have hk1 := (hb1.block bx HSX2.out).trans HK2.out
  have q0 : w1.cell? ⟨bx, 0, none⟩ = some (.int .i64 a) := by rw [cell_of_row _ _ _ _ _ _ hk1]; rfl
  have q1 : w1.cell? ⟨bx, 1, none⟩ = some (.int .i64 b) := by rw [cell_of_row _ _ _ _ _ _ hk1]; rfl
  clear hb1 HAW hk1
  go_upto_region 3 with fail
  go_quiet (fail)
  have HB2 : Hid (Below wx.heap.size wx (w1.drewN nq)) := Lib.hid (HB1.out.trans ((drewn _ _ _).mono HB1.out.size))
  clear q0 q1 HB1
  generalize w1.drewN nq = w2 at *
  have HN := Lib.hid (name_any name w2 (by omega))
  obtain ⟨nb, hnb⟩ : ∃ b, nameB name = b := ⟨_, rfl⟩
  rw [hnb] at HN
  have HNB := Lib.hid hnb
  clear hnb
  go_wp2_with fail
  refine HN.out.mono ?_
  rintro e w3 ⟨rfl, hb3⟩
  have HB3 : Hid (Below wx.heap.size wx w3) := Lib.hid (HB2.out.trans (hb3.mono HB2.out.size))
  clear hb3 HN HB2
  cases nb
  case false =>
    go_wp2_with fail
    go_ret
    exact ⟨rfl, HX.out _ HB3.out⟩
  by_cases c1 : a < 0
  · go_wp2_with fail
    go_ret
    exact ⟨rfl, HX.out _ HB3.out⟩
  by_cases c2 : b < a
  · go_wp2_with fail
    go_ret
    exact ⟨rfl, HX.out _ HB3.out⟩
  by_cases c3 : (name.length : Int) < b
  · go_wp2_with fail
    go_ret
    exact ⟨rfl, HX.out _ HB3.out⟩
  by_cases c4 : marks < 1
  · go_wp2_with fail
    go_ret
    exact ⟨rfl, HX.out _ HB3.out⟩
  by_cases c5 : 80 < marks
  · go_wp2_with fail
    go_ret
    exact ⟨rfl, HX.out _ HB3.out⟩
  obtain ⟨f, rfl⟩ : ∃ f : Nat, a = f := ⟨a.toNat, by omega⟩
  obtain ⟨t, rfl⟩ : ∃ t : Nat, b = t := ⟨b.toNat, by omega⟩
  obtain ⟨n, rfl⟩ : ∃ n : Nat, marks = n := ⟨marks.toNat, by omega⟩
  have hft : f ≤ t ∧ t ≤ name.length := by omega
  have hn1 : 1 ≤ n ∧ n ≤ 80 := by omega
  have hl64 : name.length ≤ 64 := by
    have := HNB.out
    unfold nameB at this
    simp at this; omega
  have HN47 := Lib.hid (nameB_47 HNB.out)
  have HNE := Lib.hid (nameB_ne HNB.out)
  have HP := Lib.hid (parse_lit [42] w3 (by decide) (HE.out.on HB3.out) (by decide +kernel))
  go_wp2_with fail
  refine HP.out.mono ?_
  rintro e w4 ⟨pb1, rfl, hpt, hb4⟩
  have HB4 : Hid (Below wx.heap.size wx w4) := Lib.hid (HB3.out.trans (hb4.mono HB3.out.size))
  have HM1 := Lib.hid (match_from hpt (HE.out.on HB4.out))
  clear hpt hb4 HP HB3
  have hct : ∀ W, (Instr.slice 9 (.string ⟨name.toArray⟩) none (some (.int .i64 (f : Int))) none).run Tryd.prog W = .ok (.string ⟨(name.take f).toArray⟩) W := fun W => str_take W name f (by omega)
  have hcd : ∀ W, (Instr.slice 9 (.string ⟨name.toArray⟩) (some (.int .i64 (t : Int))) none none).run Tryd.prog W = .ok (.string ⟨(name.drop t).toArray⟩) W := fun W => str_from W name t hft.2
  have HNM : Hid (name = name.take f ++ ((name.drop f).take (t - f) ++ name.drop t)) := Lib.hid (by
    have : (name.drop f).drop (t - f) = name.drop t := by rw [List.drop_drop]; congr 1; omega
    rw [← this, List.take_append_drop, List.take_append_drop])
  have hxy : (name.take f).length + (name.drop t).length ≤ 64 := by rw [List.length_take, List.length_drop]; omega
  have hsp := star_parse (x := name.take f) (y := name.drop t) (fun h => HN47.out (List.mem_of_mem_take h)) (fun h => HN47.out (List.mem_of_mem_drop h)) hxy
  rw [List.append_assoc, List.singleton_append] at hsp
  have HSP := Lib.hid hsp
  clear hsp

  generalize name.take f = x at *
  generalize name.drop t = y at *
  generalize (name.drop f).take (t - f) = z at *
  have HQX := Lib.hid (fun W => quoted_same x W (by omega))
  have HQY := Lib.hid (fun W => quoted_same y W (by omega))
  have hqx : (quoL x).length ≤ 128 := by have := quoL_len x; omega
  have hqy : (quoL y).length ≤ 128 := by have := quoL_len y; omega
  go_upto_region 7 with fail
  have hm1 : ¬ (9223372036854775807 < (quoL x).length + 1) := by omega
  have hm2 : ¬ (9223372036854775807 < (quoL x).length + 1 + (quoL y).length) := by omega
  have hm3 : ¬ (9223372036854775807 < (quoL x).length + (1 + (quoL y).length)) := by omega
  have hm4 : ¬ (9223372036854775807 < (quoL x).length + ((quoL y).length + 1)) := by omega
  refine wp_region_held_drew (S := (fun _ => True)) (by kernel_rfl) (by trivial) (fun hHeld => ?_)
  have HBD : Hid (Below wx.heap.size wx w4.drew) := Lib.hid (HB4.out.trans ((below_drewN _ w4 1).mono HB4.out.size))
  have HSD : Hid (Below w4.heap.size w4 w4.drew) := Lib.hid (below_drewN _ w4 1)
  obtain ⟨wd, hwd⟩ : ∃ W, w4.drew = W := ⟨_, rfl⟩
  rw [hwd] at HBD HSD ⊢
  clear hwd
  refine wpAnyH_take (i := 0) (oi := ⟨_, _, _, _, _, _⟩) (v := ?_) rfl (by kernel_rfl) (by kernel_rfl) (by kernel_rfl) (fun _ _ _ h => h) (Or.inl ⟨by rfl, ?_⟩) (by assumption) ?_
  rotate_left
  · intro w hSw; (try dsimp only at hSw); first | (go_simp; done) | (go_simp; with_reducible rfl)
  try simp only [Act.put, List.setIfInBounds_toArray, List.set_cons_zero, List.set_cons_succ]
  refine wpAnyH_take (i := 1) (oi := ⟨_, _, _, _, _, _⟩) (v := ?_) rfl (by kernel_rfl) (by kernel_rfl) (by kernel_rfl) (fun _ _ _ h => h) (Or.inl ⟨by rfl, ?_⟩) (by assumption) ?_
  rotate_left
  · intro w hSw; (try dsimp only at hSw); first | (go_simp; done) | (go_simp; with_reducible rfl)
  try simp only [Act.put, List.setIfInBounds_toArray, List.set_cons_zero, List.set_cons_succ]
  refine wpAnyH_take (i := 2) (oi := ⟨_, _, _, _, _, _⟩) (v := ?_) rfl (by kernel_rfl) (by kernel_rfl) (by kernel_rfl) (fun _ _ _ h => h) (Or.inl ⟨by rfl, ?_⟩) (by assumption) ?_
  rotate_left
  · intro w hSw; (try dsimp only at hSw); first | (go_simp; done) | (go_simp; with_reducible rfl)
  try simp only [Act.put, List.setIfInBounds_toArray, List.set_cons_zero, List.set_cons_succ]
  refine wpAnyH_take (i := 5) (oi := ⟨_, _, _, _, _, _⟩) (v := ?_) rfl (by kernel_rfl) (by kernel_rfl) (by kernel_rfl) (fun _ _ _ h => h) (Or.inl ⟨by rfl, ?_⟩) (by assumption) ?_
  rotate_left
  · intro w hSw; (try dsimp only at hSw); first | (go_simp; done) | (go_simp; with_reducible rfl)
  try simp only [Act.put, List.setIfInBounds_toArray, List.set_cons_zero, List.set_cons_succ]
  refine wpAnyH_take (i := 6) (oi := ⟨_, _, _, _, _, _⟩) (v := ?_) rfl (by kernel_rfl) (by kernel_rfl) (by kernel_rfl) (fun _ _ _ h => h) (Or.inl ⟨by rfl, ?_⟩) (by assumption) ?_
  rotate_left
  · intro w hSw; (try dsimp only at hSw); first | (go_simp; done) | (go_simp; with_reducible rfl)
  try simp only [Act.put, List.setIfInBounds_toArray, List.set_cons_zero, List.set_cons_succ]
  refine wpAnyH_take (i := 7) (oi := ⟨_, _, _, _, _, _⟩) (v := ?_) rfl (by kernel_rfl) (by kernel_rfl) (by kernel_rfl) (fun _ _ _ h => h) (Or.inl ⟨by rfl, ?_⟩) (by assumption) ?_
  rotate_left
  · intro w hSw; (try dsimp only at hSw); first | (go_simp; done) | (go_simp; with_reducible rfl)
  try simp only [Act.put, List.setIfInBounds_toArray, List.set_cons_zero, List.set_cons_succ]
  refine wpAnyH_ready (rs := [3]) (by kernel_rfl) (by simp) ?_
  refine AllReadyH.cons (o := ⟨_, _, _, _, _, _⟩) rfl (fun K hK => ?_) AllReadyH.nil
  go_simp
  refine (HQX.out _).mono ?_
  rintro e wq ⟨rfl, hw⟩
  rw [hw]
  clear hw wq
  try go_wp2_with fail
  refine hK.out _ _ (by trivial) (fun hHeld => ?_)
  clear hK K
  try simp only [Act.put, List.setIfInBounds_toArray, List.set_cons_zero, List.set_cons_succ]
  refine wpAnyH_take (i := 4) (oi := ⟨_, _, _, _, _, _⟩) (v := ?_) rfl (by kernel_rfl) (by kernel_rfl) (by kernel_rfl) (fun _ _ _ h => h) (Or.inl ⟨by rfl, ?_⟩) (by assumption) ?_
  rotate_left
  · intro w hSw; (try dsimp only at hSw); first | (go_simp; done) | (go_simp; with_reducible rfl)
  try simp only [Act.put, List.setIfInBounds_toArray, List.set_cons_zero, List.set_cons_succ]
  refine wpAnyH_ready (rs := [8]) (by kernel_rfl) (by simp) ?_
  refine AllReadyH.cons (o := ⟨_, _, _, _, _, _⟩) rfl (fun K hK => ?_) AllReadyH.nil
  go_simp
  refine (HQY.out _).mono ?_
  rintro e wq ⟨rfl, hw⟩
  rw [hw]
  clear hw wq
  try go_wp2_with fail
  refine hK.out _ _ (by trivial) (fun hHeld => ?_)
  clear hK K
  try simp only [Act.put, List.setIfInBounds_toArray, List.set_cons_zero, List.set_cons_succ]
  refine wpAnyH_take (i := 9) (oi := ⟨_, _, _, _, _, _⟩) (v := ?_) rfl (by kernel_rfl) (by kernel_rfl) (by kernel_rfl) (fun _ _ _ h => h) (Or.inl ⟨by rfl, ?_⟩) (by assumption) ?_
  rotate_left
  · intro w hSw; (try dsimp only at hSw); first | (go_simp; done) | (go_simp; with_reducible rfl)
  try simp only [Act.put, List.setIfInBounds_toArray, List.set_cons_zero, List.set_cons_succ]
  refine wpAnyH_ready (rs := [10]) (by kernel_rfl) (by simp) ?_
  refine AllReadyH.cons (o := ⟨_, _, _, _, _, _⟩) rfl (fun K hK => ?_) AllReadyH.nil
  go_simp
  refine (parse_is wd (by simp; omega) (HE.out.on HBD.out) HSP.out).mono ?_
  rintro e w5 ⟨pb2, rfl, hpt, hb5⟩
  have HS5 := Lib.hid hb5
  have HB5 : Hid (Below wx.heap.size wx w5) := Lib.hid (HBD.out.trans (hb5.mono HBD.out.size))
  have HM2 := Lib.hid (match_from hpt (HE.out.on HB5.out))
  clear hpt hb5
  try go_wp2_with fail
  refine hK.out _ _ (by trivial) (fun hHeld => ?_)
  clear hK K
  try simp only [Act.put, List.setIfInBounds_toArray, List.set_cons_zero, List.set_cons_succ]
  refine wpAnyH_take (i := 11) (oi := ⟨_, _, _, _, _, _⟩) (v := ?_) rfl (by kernel_rfl) (by kernel_rfl) (by kernel_rfl) (fun _ _ _ h => h) (Or.inl ⟨by rfl, ?_⟩) (by assumption) ?_
  rotate_left
  · intro w hSw; (try dsimp only at hSw); first | (go_simp; done) | (go_simp; with_reducible rfl)
  try simp only [Act.put, List.setIfInBounds_toArray, List.set_cons_zero, List.set_cons_succ]
  refine wpAnyH_take (i := 12) (oi := ⟨_, _, _, _, _, _⟩) (v := ?_) rfl (by kernel_rfl) (by kernel_rfl) (by kernel_rfl) (fun _ _ _ h => h) (Or.inl ⟨by rfl, ?_⟩) (by assumption) ?_
  rotate_left
  · intro w hSw; (try dsimp only at hSw); first | (go_simp; done) | (go_simp; with_reducible rfl)
  try simp only [Act.put, List.setIfInBounds_toArray, List.set_cons_zero, List.set_cons_succ]
  refine wpAnyH_take (i := 13) (oi := ⟨_, _, _, _, _, _⟩) (v := ?_) rfl (by kernel_rfl) (by kernel_rfl) (by kernel_rfl) (fun _ _ _ h => h) (Or.inl ⟨by rfl, ?_⟩) (by assumption) ?_
  rotate_left
  · intro w hSw; (try dsimp only at hSw); first | (go_simp; done) | (go_simp; with_reducible rfl)
  try simp only [Act.put, List.setIfInBounds_toArray, List.set_cons_zero, List.set_cons_succ]
  refine wpAnyH_take (i := 14) (oi := ⟨_, _, _, _, _, _⟩) (v := ?_) rfl (by kernel_rfl) (by kernel_rfl) (by kernel_rfl) (fun _ _ _ h => h) (Or.inl ⟨by rfl, ?_⟩) (by assumption) ?_
  rotate_left
  · intro w hSw; (try dsimp only at hSw); first | (go_simp; done) | (go_simp; with_reducible rfl)
  try simp only [Act.put, List.setIfInBounds_toArray, List.set_cons_zero, List.set_cons_succ]
  refine wpAnyH_take (i := 15) (oi := ⟨_, _, _, _, _, _⟩) (v := ?_) rfl (by kernel_rfl) (by kernel_rfl) (by kernel_rfl) (fun _ _ _ h => h) (Or.inl ⟨by rfl, ?_⟩) (by assumption) ?_
  rotate_left
  · intro w hSw; (try dsimp only at hSw); first | (go_simp; done) | (go_simp; with_reducible rfl)
  try simp only [Act.put, List.setIfInBounds_toArray, List.set_cons_zero, List.set_cons_succ]
  refine wpAnyH_done (by kernel_rfl) ?_ _
  clear hHeld
  go_wp2_with fail
  have HCD5 : Hid (Below w4.heap.size w4 w5) := Lib.hid (HSD.out.trans (HS5.out.mono HSD.out.size))
  clear HS5 HSD HBD HB4 hct hcd hm1 hm2 hm3 hm4 HQX HQY HSP
  go_loop [13, 14] (fun o i => ∃ k : Nat, k ≤ n ∧ o = .string ⟨(marksT k).toArray⟩ ∧ i = .int .i64 k) (fun _ i => n - (intOf i).toNat)
  case atStart => exact ⟨0, Nat.zero_le _, rfl, rfl⟩
  case round =>
    obtain ⟨k, hk, rfl, rfl⟩ := hrel
    by_cases hlt : k < n
    · have HR := Lib.hid (marksT_succ k)
      have hrl : (marksT k).length ≤ 80 := by rw [marksT_len]; omega
      generalize marksT k = s at *
      go_wp2_with fail
      go_round
      case rel => exact ⟨k + 1, by omega, by rw [HR.out], by go_num⟩
      case measure => simp [intOf]; omega
    · obtain rfl : k = n := by omega
      have HPM := Lib.hid (marksT_parse hn1.1 hn1.2)
      have hrl : (marksT k).length ≤ 80 := by rw [marksT_len]; omega
      generalize marksT k = s at *
      go_wp2_with fail
      refine (parse_is w5 (by omega) (HE.out.on HB5.out) HPM.out).mono ?_
      rintro e w6 ⟨pb3, rfl, hpt, hb6⟩
      have HB6 : Hid (Below wx.heap.size wx w6) := Lib.hid (HB5.out.trans (hb6.mono HB5.out.size))
      have HM3 := Lib.hid (match_from hpt (HE.out.on HB6.out))
      have HS56 := Lib.hid hb6
      have HS46 : Hid (Below w4.heap.size w4 w6) := Lib.hid (HCD5.out.trans (hb6.mono HCD5.out.size))
      obtain ⟨bm, hbm⟩ : ∃ b, decide ((k : Int) = (name.length : Int)) = b := ⟨_, rfl⟩
      have MA : Hid (matchB (okP [42]) (namesL name) = true) := Lib.hid (by rw [names_one HNE.out HN47.out]; exact any_one name)
      have MA2 : Hid (matchB (okP [42]) (namesL (name ++ [47, 120])) = false) := Lib.hid (by rw [names_two HN47.out]; exact any_two _ _)
      have MB : Hid (matchB [some (litS x ++ none :: litS y)] (namesL name) = true) := Lib.hid (by
        rw [names_one HNE.out HN47.out]
        conv => lhs; rw [HNM.out]
        exact star_means x z y)
      have MC : Hid (matchB [some (mkS k)] (namesL name) = bm) := Lib.hid (by
        rw [names_one HNE.out HN47.out]
        exact mark_means k name (by rw [← hbm]; simp only [decide_eq_true_eq]; omega))
      have gbm : ((k : Int) == (name.length : Int)) = bm := by rw [← hbm]; rfl
      clear hpt hb6 HPM
      cases bm
      all_goals
        go_wp2_with fail
        refine (HM1.out w6 HS46.out name true (by omega) MA.out).mono ?_
        rintro e w7 ⟨rfl, hb7⟩
        have HB7 := Lib.hid hb7
        clear hb7
        go_wp2_with fail
        refine (HM2.out w7 (HS56.out.trans (HB7.out.mono HS56.out.size)) name true (by omega) MB.out).mono ?_
        rintro e w8 ⟨rfl, hb8⟩
        have HB8 : Hid (Below w6.heap.size w6 w8) := Lib.hid (HB7.out.trans (hb8.mono HB7.out.size))
        clear hb8 HB7
        go_wp2_with fail
        refine (HM3.out w8 HB8.out name _ (by omega) MC.out).mono ?_
        rintro e w9 ⟨rfl, hb9⟩
        have HB9 : Hid (Below w6.heap.size w6 w9) := Lib.hid (HB8.out.trans (hb9.mono HB8.out.size))
        clear hb9 HB8
        go_wp2_with fail
        refine (HM1.out w9 (HS46.out.trans (HB9.out.mono HS46.out.size)) (name ++ [47, 120]) false (by simp; omega) MA2.out).mono ?_
        rintro e w10 ⟨rfl, hb10⟩
        have HB10 : Hid (Below w6.heap.size w6 w10) := Lib.hid (HB9.out.trans (hb10.mono HB9.out.size))
        clear hb10 HB9
        go_wp2_with fail
        go_ret
        exact ⟨rfl, HX.out _ (HB6.out.trans (HB10.out.mono HB6.out.size))⟩
end Go.Proofs.YtkecpmhpdginpaaDoor
