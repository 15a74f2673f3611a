/- The walks of the laws' own same and lengths; chunks in memory. -/
import Derived.Test.YtgfnlplgkgoinaaGearC
import Derived.Deep.QuietTactic
import Derived.BigQuiet
namespace Go.Proofs.Ytgfnlplgkgoinaa
open Go.RowKit

theorem iv_at {l : List Nat} {j : Nat} (h : j < l.length) : (iv l)[j]? = some (.int .i64 (l[j] : Nat)) := by unfold iv; rw [List.getElem?_map, List.getElem?_eq_getElem h]; rfl
theorem eq_of_at {a b : List Nat} (hl : a.length = b.length) (h : ∀ j (h1 : j < a.length) (h2 : j < b.length), a[j] = b[j]) : a = b := List.ext_getElem hl h
/-- The first elements of two lists are alike. -/
def upto (a b : List Nat) (k : Nat) : Prop := ∀ j (h1 : j < a.length) (h2 : j < b.length), j < k → a[j] = b[j]
set_option maxRecDepth 100000 in
set_option maxHeartbeats 1000000 in
theorem same_any (S T : Nat → Prop) (va vb : Value) (la lb : List Nat) (w : World) (ha : IntsC S w va la) (hb : IntsC T w vb lb) (hla : la.length ≤ 4194304) :
    Calls Try.prog 15 #[va, vb] w fun e w' => e = .returned (.bool (decide (la = lb))) ∧ ∃ n, w' = w.drewN n := by
  have HA := Lib.hid ha
  have HB := Lib.hid hb
  obtain ⟨a, ca, rfl⟩ := ha.shape
  obtain ⟨b, cb, rfl⟩ := hb.shape
  clear ha hb
  by_cases hl : la.length = lb.length
  · have HLL := Lib.hid hl
    have hl1 : la.length ≤ lb.length := by omega
    rw [← hl]
    clear hl
    go_enter Try.func15, Try.ntmps15
    go_wp2_with fail
    go_loopw [13] (fun i wr => ∃ k n : Nat, k ≤ la.length ∧ i = .int .i64 k ∧ upto la lb k ∧ wr = w.drewN n) (fun i _ => la.length - (intOf i).toNat)
    case atStart => exact ⟨0, 0, Nat.zero_le _, rfl, fun _ _ _ h => by omega, rfl⟩
    case round =>
      obtain ⟨k, n, hk, rfl, hup, rfl⟩ := hrel
      have HUP := Lib.hid hup
      clear hup
      by_cases hlt : k < la.length
      · have hkb : k < lb.length := by omega
        rcases HA.out with ⟨_, h0⟩ | ⟨aa, ca', h1, _, _, _, hca⟩
        · rw [h0] at hlt; simp at hlt
        rcases HB.out with ⟨_, h0⟩ | ⟨bb, cb', h1', _, _, _, hcb⟩
        · rw [h0] at hkb; simp at hkb
        injection h1 with h1 _ h1c
        injection h1' with h1' _ h1c'
        subst h1 h1c h1' h1c'
        have d1 := hca k _ (iv_at hlt)
        have d2 := hcb k _ (iv_at hkb)
        clear hca hcb
        have HX : Hid (∀ j (h1 : j < la.length), j = k → la[j] = la[k]) := Lib.hid (fun j h1 e => by subst e; rfl)
        generalize hx : la[k] = x at *
        generalize hy : lb[k] = y at *
        have HXX := Lib.hid hx
        have HYY := Lib.hid hy
        clear hx hy
        go_wp2_with fail
        by_cases hxy : x = y
        · have hne : ((x : Int) == (y : Int)) = true := by rw [beq_iff_eq]; omega
          have HXY := Lib.hid hxy
          clear hxy
          go_quiet (fail)
          go_wp2_with fail
          go_roundw
          case rel =>
            refine ⟨k + 1, _, by omega, by go_num, fun j h1 h2 h3 => ?_, rfl⟩
            by_cases hj : j < k
            · exact HUP.out j h1 h2 hj
            · have e : j = k := by omega
              subst e
              rw [HXX.out, HYY.out, HXY.out]
          case measure => simp [intOf]; omega
        · have hne : ((x : Int) == (y : Int)) = false := by rw [beq_eq_false_iff_ne]; omega
          have HE : Hid (decide (la = lb) = false) := Lib.hid (decide_eq_false (fun e => hxy (by
            rw [← HXX.out, ← HYY.out]
            subst e; rfl)))
          clear hxy
          go_quiet (fail)
          go_wp2_with fail
          go_ret
          exact ⟨by rw [HE.out]; rfl, n + nq, by rw [World.drewN_drewN]⟩
      · have HE : Hid (decide (la = lb) = true) := Lib.hid (decide_eq_true (eq_of_at HLL.out (fun j h1 h2 => HUP.out j h1 h2 (by omega))))
        go_wp2_with fail
        go_ret
        exact ⟨by rw [HE.out]; rfl, _, rfl⟩
  · have hlb : (((la.length : Int)) == (lb.length : Int)) = false := by rw [beq_eq_false_iff_ne]; omega
    have HE : Hid (decide (la = lb) = false) := Lib.hid (decide_eq_false (fun e => hl (by rw [e])))
    clear hl
    go_enter Try.func15, Try.ntmps15
    go_wp2_with fail
    go_ret
    exact ⟨by rw [HE.out]; rfl, 0, rfl⟩
/-- A slice value whose cells, all in blocks of S, hold slices of these bytes, in blocks of S too. -/
def ChunksC (S : Nat → Prop) (w : World) (v : Value) (ls : List (List UInt8)) : Prop :=
  (v = .slice none 0 0 ∧ ls = []) ∨ ∃ a cap, v = .slice (some a) ls.length cap ∧ ls.length ≤ cap ∧ cap ≤ maxLen ∧ (ls = [] ∨ S a.block) ∧ ∀ j l, ls[j]? = some l → ∃ vj, w.cell? (a.add j) = some vj ∧ BytesC S w vj l
theorem ChunksC.kept {S S' : Nat → Prop} {w w' : World} {v : Value} {ls : List (List UInt8)} (h : ChunksC S w v ls) (hk : ∀ k, S k → S' k ∧ w'.heap[k]? = w.heap[k]?) : ChunksC S' w' v ls := by
  rcases h with h | ⟨a, cap, h1, h2, h3, h4, h5⟩
  · exact Or.inl h
  · refine Or.inr ⟨a, cap, h1, h2, h3, h4.imp_right (fun h => (hk _ h).1), fun j l hj => ?_⟩
    obtain ⟨vj, e1, e2⟩ := h5 j l hj
    rcases h4 with rfl | h4
    · simp at hj
    · exact ⟨vj, (World.cell?_of_block (w := w) (by rw [add_block]; exact (hk _ h4).2)).trans e1, e2.kept hk⟩
theorem ChunksC.shape {S : Nat → Prop} {w : World} {v : Value} {ls : List (List UInt8)} (h : ChunksC S w v ls) : ∃ a cap, v = .slice a ls.length cap := by
  rcases h with ⟨rfl, rfl⟩ | ⟨a, cap, rfl, _⟩
  · exact ⟨none, 0, rfl⟩
  · exact ⟨_, _, rfl⟩
set_option maxRecDepth 100000 in
set_option maxHeartbeats 1000000 in
theorem lengths_any (S : Nat → Prop) (v : Value) (ls : List (List UInt8)) (w : World) (hS : ∀ k, S k → k < w.heap.size) (h : ChunksC S w v ls) (hl : ls.length ≤ 4194304) :
    Calls Try.prog 17 #[v] w fun e w' => ∃ v', e = .returned v' ∧ OwnI w' w.heap.size v' (ls.map List.length) ∧ Below w.heap.size w w' := by
  obtain ⟨i0, hi, hz0, hz1, hz2⟩ := info_parts Try.info3
  have H := Lib.hid h
  have HS := Lib.hid hS
  obtain ⟨a, ca, rfl⟩ := h.shape
  clear h hS
  go_enter Try.func17, Try.ntmps17
  go_wp2_with fail
  go_loopw [3, 8] (fun vo i wr => ∃ k : Nat, k ≤ ls.length ∧ i = .int .i64 k ∧ OwnI wr w.heap.size vo ((ls.map List.length).take k) ∧ Below w.heap.size w wr) (fun _ i _ => ls.length - (intOf i).toNat)
  case atStart => exact ⟨0, Nat.zero_le _, rfl, ownI_nil _ _, Below.refl _ _⟩
  case round =>
    obtain ⟨k, hk, rfl, hown, hbel⟩ := hrel
    have HOW := Lib.hid hown
    have HBE := Lib.hid hbel
    have hsz := hbel.size
    clear hown hbel
    by_cases hlt : k < ls.length
    · rcases H.out with ⟨_, h0⟩ | ⟨aa, ca', h1, _, _, hb, hca⟩
      · rw [h0] at hlt; simp at hlt
      injection h1 with h1 _ h1c
      subst h1 h1c
      have hblk : aa.block < w.heap.size := by
        rcases hb with h0 | hb
        · rw [h0] at hlt; simp at hlt
        · exact HS.out _ hb
      obtain ⟨vj, e1, e2⟩ := hca k _ (List.getElem?_eq_getElem hlt)
      obtain ⟨ja, jc, rfl⟩ := e2.shape
      have d1 := (HBE.out.cell (p := aa.add k) (by rw [add_block]; exact hblk)).trans e1
      have HTK : Hid ((ls.map List.length).take (k + 1) = (ls.map List.length).take k ++ [ls[k].length]) := Lib.hid (by rw [List.take_succ_eq_append_getElem (by rw [List.length_map]; exact hlt), List.getElem_map])
      have htl : ((ls.map List.length).take k).length = k := by rw [List.length_take, List.length_map]; omega
      have hown2 := HOW.out
      unfold OwnI at hown2
      rw [htl] at hown2
      generalize ls[k].length = x at *
      clear e1 e2 hca hb htl
      go_wp2_with (at_builtin; refine wpList_own_src _ rfl _ _ 26 26 rfl w.heap.size 3 i0 (.int .i64 0) 1 8 Try.underlying26 hi hz0 hz1 hz2 rfl (by decide) _ _ _ rfl (hown2.alloc _) _ 1 [.int .i64 (x : Int)] rfl (srcI_one _ _) ?c3 ?c4 ?c5 ?_)
      case c3 => unfold maxLen; omega
      case c4 => omega
      case c5 => first | omega | (simp; omega)
      intro v2 w2 hown3 hg2
      have HO2 : Hid (OwnI w2 w.heap.size v2 ((ls.map List.length).take (k + 1))) := Lib.hid (by
        rw [HTK.out]
        unfold OwnI
        rw [iv_append, List.length_append, List.length_take, List.length_map, Nat.min_eq_left hk]
        exact hown3)
      have HB2 := Lib.hid ((HBE.out.alloc (by omega) _).grown hg2.gb (by simp; omega) (fun j hj => (World.ownsRow.lt hown2 j hj).1))
      clear hown2 hown3 hg2
      go_wp2_with fail
      go_roundw
      case rel => exact ⟨k + 1, by omega, by go_num, HO2.out, HB2.out⟩
      case measure => simp [intOf]; omega
    · have hkl : k = ls.length := by omega
      have ho := HOW.out
      rw [hkl, List.take_of_length_le (by rw [List.length_map]; exact Nat.le_refl _)] at ho
      have HO := Lib.hid ho
      clear ho hkl
      go_wp2_with fail
      go_ret
      exact ⟨_, rfl, HO.out, HBE.out⟩
end Go.Proofs.Ytgfnlplgkgoinaa
