/- The walks of awake and valid. -/
import Derived.Test.YtplbcncbljcfmaaDoorPathI
namespace Go.Proofs.YtplbcncbljcfmaaDoor
open Go.RowKit Go.Lib

def TrueP (w : World) (e : Ending) (w' : World) : Prop := e = .returned (.bool true) ∧ Below w.heap.size w w'
theorem below_one {w : World} {n : Nat} {w' : World} (h : w' = w.drewN n) : Below w.heap.size w w' := by rw [h]; exact drewn _ _ _
set_option maxRecDepth 100000 in
set_option maxHeartbeats 2000000 in
theorem awake5_any (w : World) (hE : PEnv w) : Calls Tryd.prog 24 #[] w (TrueP w) := by
  have K1 : Hid (∀ W, PEnv W → Calls Tryd.prog 27 #[.string ⟨#[97, 47, 98]⟩] W fun e w' => e = .returned (.int .i64 0) ∧ Below W.heap.size W w') := Lib.hid (fun W h => by
    have h := check_any [97, 47, 98] W (by decide) h
    rwa [show checkN [97, 47, 98] = 0 by decide +kernel] at h)
  have K2 : Hid (∀ W, PEnv W → Calls Tryd.prog 27 #[.string ⟨#[97, 47, 47, 98]⟩] W fun e w' => e = .returned (.int .i64 50) ∧ Below W.heap.size W w') := Lib.hid (fun W h => by
    have h := check_any [97, 47, 47, 98] W (by decide) h
    rwa [show checkN [97, 47, 47, 98] = 50 by decide +kernel] at h)
  have K3 : Hid (∀ W, Calls Tryd.prog 37 #[.string ⟨#[97]⟩, .string ⟨#[97, 47, 98]⟩] W fun e w' => e = .returned (.int .i64 (-1)) ∧ Below W.heap.size W w') := Lib.hid (fun W => by
    have h := compare_any [97] [97, 47, 98] W (by decide) (by decide)
    rw [show cmpP [97] [97, 47, 98] = -1 by decide +kernel] at h
    exact h.mono fun _ _ ⟨he, n, hw⟩ => ⟨he, below_one hw⟩)
  have K4 : Hid (∀ W, Calls Tryd.prog 37 #[.string ⟨#[97, 47, 98]⟩, .string ⟨#[97, 46, 98]⟩] W fun e w' => e = .returned (.int .i64 (-1)) ∧ Below W.heap.size W w') := Lib.hid (fun W => by
    have h := compare_any [97, 47, 98] [97, 46, 98] W (by decide) (by decide)
    rw [show cmpP [97, 47, 98] [97, 46, 98] = -1 by decide +kernel] at h
    exact h.mono fun _ _ ⟨he, n, hw⟩ => ⟨he, below_one hw⟩)
  have K5 : Hid (∀ W, Calls Tryd.prog 33 #[.string ⟨#[97, 47, 98]⟩] W fun e w' => e = .returned (.string ⟨#[97]⟩) ∧ W = w') := Lib.hid (fun W => by
    have h := parent_any [97, 47, 98] W (by decide)
    rwa [show parentN [97, 47, 98] = [97] by decide +kernel] at h)
  have K6 : Hid (∀ W, Calls Tryd.prog 35 #[.string ⟨#[97, 47, 98]⟩, .string ⟨#[97]⟩] W fun e w' => e = .returned (.bool true) ∧ W = w') := Lib.hid (fun W => by
    have h := under_any [97, 47, 98] [97] W
    rwa [show underB [97, 47, 98] [97] = true by decide +kernel] at h)
  have K7 : Hid (∀ W, Calls Tryd.prog 35 #[.string ⟨#[97, 46, 98]⟩, .string ⟨#[97]⟩] W fun e w' => e = .returned (.bool false) ∧ W = w') := Lib.hid (fun W => by
    have h := under_any [97, 46, 98] [97] W
    rwa [show underB [97, 46, 98] [97] = false by decide +kernel] at h)
  have K8 : Hid (∀ W, Calls Tryd.prog 29 #[.string ⟨#[120]⟩] W fun e w' => e = .returned (.bool true) ∧ Below W.heap.size W w') := Lib.hid (fun W => by
    have h := name_any [120] W (by decide)
    rwa [show nameB [120] = true by decide +kernel] at h)
  have HE := Lib.hid hE
  clear hE
  go_enter Tryd.func24, Tryd.ntmps24
  go_wp2_with fail
  refine (K1.out _ HE.out).mono ?_
  rintro e w1 ⟨rfl, hb1⟩
  have B1 := Lib.hid hb1
  clear hb1
  go_wp2_with fail
  refine (K2.out _ (HE.out.on B1.out)).mono ?_
  rintro e w2 ⟨rfl, hb2⟩
  have B2 := Lib.hid (B1.out.trans (hb2.mono B1.out.size))
  clear hb2
  go_wp2_with fail
  refine (K3.out _).mono ?_
  rintro e w3 ⟨rfl, hb3⟩
  have B3 := Lib.hid (B2.out.trans (hb3.mono B2.out.size))
  clear hb3
  go_wp2_with fail
  refine (K4.out _).mono ?_
  rintro e w4 ⟨rfl, hb4⟩
  have B4 := Lib.hid (B3.out.trans (hb4.mono B3.out.size))
  clear hb4
  go_wp2_with fail
  refine (K5.out _).mono ?_
  rintro e w5 ⟨rfl, rfl⟩
  go_wp2_with fail
  refine (K6.out _).mono ?_
  rintro e w5 ⟨rfl, rfl⟩
  go_wp2_with fail
  refine (K7.out _).mono ?_
  rintro e w5 ⟨rfl, rfl⟩
  go_wp2_with fail
  refine (K8.out _).mono ?_
  rintro e w5 ⟨rfl, hb5⟩
  have B5 := Lib.hid (B4.out.trans (hb5.mono B4.out.size))
  clear hb5
  go_wp2_with fail
  go_ret
  exact ⟨rfl, B5.out⟩
def sv (l : List (List UInt8)) : List Value := l.map fun x => Value.string ⟨x.toArray⟩
def OwnS (w : World) (B : Nat) (v : Value) (l : List (List UInt8)) : Prop := w.ownsRow B 9 1 v l.length (sv l)
theorem sv_append (l r : List (List UInt8)) : sv (l ++ r) = sv l ++ sv r := by unfold sv; rw [List.map_append]
theorem ownS_nil (w : World) (B : Nat) : OwnS w B (.slice none 0 0) [] := World.ownsRow_nil _ _ _ _
theorem ownS_push {w2 : World} {B : Nat} {v : Value} {l : List (List UInt8)} {x : List UInt8} (h : w2.ownsRow B 9 1 v (l.length + 1) (sv l ++ [.string ⟨x.toArray⟩])) : OwnS w2 B v (l ++ [x]) := by
  unfold OwnS
  rw [sv_append, List.length_append]; exact h
theorem srcS_one (w : World) (x : ByteArray) : Src Tryd.prog 1 42 (.slice (some ⟨w.heap.size, 0, none⟩) 1 1) 1 [.string x] (w.alloc (.cells #[.string x] 9)) :=
  Src.ofSlice _ Tryd.underlying42 _ 1 1 _ rfl (news_one _ _ _) (fun u hu => by rw [List.mem_singleton] at hu; subst hu; rfl)
theorem ownS_slice {w : World} {B : Nat} {v : Value} {l : List (List UInt8)} (h : OwnS w B v l) : ∃ a cap, v = .slice a l.length cap := by
  rcases h.2 with ⟨e, hn⟩ | ⟨g, cap, cur, e, _⟩
  · rw [hn]; exact ⟨none, 0, e⟩
  · exact ⟨_, _, e⟩
theorem ownS_c {w : World} {B : Nat} {v : Value} {l : List (List UInt8)} (h : OwnS w B v l) : StrsC (fun k => B ≤ k ∧ k < w.heap.size) w v l := by
  rcases h.2 with ⟨rfl, hn⟩ | ⟨g, cap, cur, rfl, hB, hg, hnc, hcm, _⟩
  · exact Or.inl ⟨List.length_eq_zero_iff.1 hn, none, 0, rfl⟩
  · refine Or.inr ⟨_, cap, rfl, ⟨hB, (Array.getElem?_eq_some_iff.1 hg).1⟩, hnc, fun i hi => ?_⟩
    have := World.ownsRow.cells h rfl i (.string ⟨(l.getD i []).toArray⟩) (by unfold sv; simp [List.getD, List.getElem?_eq_getElem hi])
    exact this
/-- The paths that are right. -/
def validL (l : List (List UInt8)) : List (List UInt8) := l.filter fun p => decide (checkN p = 0)
theorem validL_snoc {l : List (List UInt8)} {k : Nat} (h : k < l.length) : validL (l.take (k + 1)) = validL (l.take k) ++ (if checkN (l.getD k []) = 0 then [l.getD k []] else []) := by
  unfold validL
  rw [List.take_succ_eq_append_getElem h, List.filter_append, show l.getD k [] = l[k] by simp [List.getD, List.getElem?_eq_getElem h]]
  congr 1
  by_cases e : checkN l[k] = 0 <;> simp [e]
theorem validL_le (l : List (List UInt8)) (k : Nat) : (validL (l.take k)).length ≤ k := by
  unfold validL
  have := List.length_filter_le (fun p => decide (checkN p = 0)) (l.take k)
  rw [List.length_take] at this; omega
theorem Tryd.info9s : (Tryd.prog.info? 9).map (fun i => (i.zero, i.size, i.bytes)) = some (some (.string ByteArray.empty), 1, 16) := by kernel_rfl
set_option maxRecDepth 100000 in
set_option maxHeartbeats 2000000 in
theorem valid_any (S : Nat → Prop) (v : Value) (l : List (List UInt8)) (w : World) (hS : ∀ k, S k → k < w.heap.size) (h : StrsC S w v l) (hl : l.length ≤ 4194304) (hx : ∀ x ∈ l, x.length ≤ 4194304) (hE : PEnv w) :
    Calls Tryd.prog 39 #[v] w fun e w' => ∃ v', e = .returned v' ∧ OwnS w' w.heap.size v' (validL l) ∧ Below w.heap.size w w' := by
  obtain ⟨i0, hi, hz0, hz1, hz2⟩ := info_parts Tryd.info9s
  have HS := Lib.hid hS
  have H := Lib.hid h
  have HE := Lib.hid hE
  have HX : Hid (∀ j, j < l.length → (l.getD j []).length ≤ 4194304) := Lib.hid (fun j hj => by
    rw [show l.getD j [] = l[j] by simp [List.getD, List.getElem?_eq_getElem hj]]
    exact hx _ (List.getElem_mem hj))
  obtain ⟨a, c, rfl⟩ := h.shape
  have HR := Lib.hid (Below.refl w.heap.size w)
  clear h hS hx hE
  go_enter Tryd.func39, Tryd.ntmps39
  go_wp2_with fail
  go_loopw [3, 8] (fun o i wr => ∃ k : Nat, k ≤ l.length ∧ i = .int .i64 k ∧ OwnS wr w.heap.size o (validL (l.take k)) ∧ Below w.heap.size w wr) (fun _ i _ => l.length - (intOf i).toNat)
  case atStart => exact ⟨0, Nat.zero_le _, rfl, ownS_nil _ _, HR.out⟩
  case round =>
    obtain ⟨k, hk, rfl, ho, hb⟩ := hrel
    have B := Lib.hid hb
    have O := Lib.hid ho
    have hsz := hb.size
    obtain ⟨oa, oc, rfl⟩ := ownS_slice ho
    clear hb HR ho
    by_cases hlt : k < l.length
    · obtain ⟨b, rfl, hb1, hb2, hb3⟩ := (H.out.kept (S' := S) (w' := wr) (fun j hj => ⟨hj, B.out.block j (HS.out j hj)⟩)).at (by omega)
      have hc := hb3 k hlt
      have HW := Lib.hid (check_any (l.getD k []) wr (HX.out k hlt) (HE.out.on B.out))
      have HV := Lib.hid (validL_snoc hlt)
      have hvl := validL_le l k
      generalize l.getD k [] = x at *
      clear hb1 hb3
      go_wp2_with fail
      refine HW.out.mono ?_
      rintro e w2 ⟨rfl, hb⟩
      have B2 := Lib.hid (B.out.trans (hb.mono hsz))
      have O2 : Hid (OwnS w2 w.heap.size (.slice oa (validL (l.take k)).length oc) (validL (l.take k))) := Lib.hid (own_below O.out (fun j _ h2 => hb.block j h2))
      have hs2 := hb.size
      clear hb hc
      by_cases h0 : checkN x = 0
      · have HV2 : Hid (validL (l.take (k + 1)) = validL (l.take k) ++ [x]) := Lib.hid (by rw [HV.out, if_pos h0])
        have g0 : (checkN x == 0) = true := by rw [h0]; rfl
        clear HV h0
        go_wp2_with (at_builtin; refine wpList_own_src _ rfl _ _ 42 42 rfl w.heap.size 9 i0 (.string ByteArray.empty) 1 16 Tryd.underlying42 hi hz0 hz1 hz2 rfl (by decide) _ _ _ rfl (World.ownsRow.alloc O2.out _) _ 1 [.string ⟨x.toArray⟩] rfl (srcS_one _ _) ?c13 ?c14 ?c15 ?_)
        case c13 => unfold maxLen; omega
        case c14 => omega
        case c15 => simp; omega
        intro v4 w4 hown4 hg4
        have HO4 := Lib.hid (ownS_push hown4)
        have HB4 := Lib.hid ((B2.out.alloc (by omega) _).grown hg4.gb (by simp; omega) (fun j hj => (World.ownsRow.lt O2.out j hj).1))
        clear hown4 hg4
        go_wp2_with fail
        go_roundw
        case rel => exact ⟨k + 1, by omega, by go_num, by rw [HV2.out]; exact HO4.out, HB4.out⟩
        case measure => simp [intOf]; omega
      · have HV2 : Hid (validL (l.take (k + 1)) = validL (l.take k)) := Lib.hid (by rw [HV.out, if_neg h0, List.append_nil])
        have g0 : (checkN x == 0) = false := by rw [beq_eq_false_iff_ne]; exact h0
        clear HV h0
        go_wp2_with fail
        go_roundw
        case rel => exact ⟨k + 1, by omega, by go_num, by rw [HV2.out]; exact O2.out, B2.out⟩
        case measure => simp [intOf]; omega
    · have hkl : k = l.length := by omega
      have HQ : Hid (validL (l.take k) = validL l) := Lib.hid (by rw [hkl, List.take_length])
      clear hkl
      go_wp2_with fail
      go_ret
      exact ⟨_, rfl, by rw [← HQ.out]; exact O.out, B.out⟩
end Go.Proofs.YtplbcncbljcfmaaDoor
