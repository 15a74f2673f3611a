/- The walks of Join, and of the reference's Split. -/
import Derived.Test.YtfiogjdjcocbnaaLinD
namespace Go.Proofs.Ytfiogjdjcocbnaa
open Go.RowKit

theorem flat_snoc {l : List (List UInt8)} {k : Nat} (h : k < l.length) : (l.take (k + 1)).flatten = (l.take k).flatten ++ l.getD k [] := by
  rw [take_snoc (d := []) h, List.flatten_append]; simp
theorem flat_take_le (l : List (List UInt8)) (k : Nat) : (l.take k).flatten.length ≤ l.flatten.length := by
  conv => rhs; rw [← List.take_append_drop k l, List.flatten_append, List.length_append]
  omega
theorem src_string (w : World) (x : List UInt8) : Src Try.prog 1 9 (.string ⟨x.toArray⟩) x.length (bv x) w := by
  have h := Src.ofString (P := Try.prog) w Try.underlying9 ⟨x.toArray⟩
  exact h
set_option maxRecDepth 100000 in
set_option maxHeartbeats 2000000 in
theorem join_any (S : Nat → Prop) (v : Value) (l : List (List UInt8)) (w : World) (hS : ∀ k, S k → k < w.heap.size) (h : StrsC S w v l) (hl : l.length ≤ 4194304) (hf : l.flatten.length ≤ 4194304) :
    Calls Try.prog 22 #[v] w fun e w' => ∃ v', e = .returned v' ∧ Own w' w.heap.size v' l.flatten ∧ Below w.heap.size w w' := by
  obtain ⟨i0, hi, hz0, hz1, hz2⟩ := info_parts Try.info5
  obtain ⟨a, c, rfl⟩ := h.shape
  have HS := Lib.hid hS
  have H := Lib.hid h
  have HR := Lib.hid (Below.refl w.heap.size w)
  have HF := Lib.hid (flat_take_le l)
  clear h hS
  go_enter Try.func22, Try.ntmps22
  go_wp2_with fail
  go_loopw [3, 8] (fun o i wr => ∃ (k : Nat), k ≤ l.length ∧ i = .int .i64 k ∧ Hid (Own wr w.heap.size o (l.take k).flatten) ∧ Hid (Below w.heap.size w wr)) (fun _ i _ => l.length - (intOf i).toNat)
  case atStart => exact ⟨0, Nat.zero_le _, rfl, Lib.hid (own_nil _ _), HR⟩
  case round =>
    obtain ⟨k, hk, rfl, hO, hW⟩ := hrel
    obtain ⟨oa, oc, rfl⟩ := own_slice hO.out
    by_cases hlt : k < l.length
    · obtain ⟨g, o, rfl, hSg, _, _, hx⟩ := H.out.at (by omega)
      have hblk := HS.out _ hSg
      have c1 := (hW.out.cell (p := ⟨g, o + k, none⟩) hblk).trans (hx k hlt)
      have HN := Lib.hid (flat_snoc hlt)
      have h1 := HF.out (k + 1)
      rw [HN.out, List.length_append] at h1
      have hsz := hW.out.size
      generalize l.getD k [] = x at *
      generalize (l.take k).flatten = d at *
      clear hx
      go_wp2_with (at_builtin; refine wpList_own_src _ rfl _ _ 22 9 rfl w.heap.size 5 i0 (.int .u8 0) 1 1 Try.underlying22 hi hz0 hz1 hz2 rfl (by decide) _ _ _ rfl hO.out _ x.length (bv x) rfl (src_string _ _) (by unfold maxLen; omega) (by omega) (by omega) ?_)
      intro v5 w5 hown5 hg5
      have O5 : Hid (Own w5 w.heap.size v5 (d ++ x)) := Lib.hid (own_more hown5)
      have B5 : Hid (Below w.heap.size w w5) := Lib.hid (hW.out.grown hg5.gb (by omega) (fun q hq => (World.ownsRow.lt hO.out q hq).1))
      clear hown5 hg5 c1
      go_wp2_with fail
      go_roundw
      case rel => exact ⟨k + 1, by omega, by go_num, by rw [HN.out]; exact O5, B5⟩
      case measure => simp [intOf]; omega
    · have HQ : Hid ((l.take k).flatten = l.flatten) := Lib.hid (by rw [List.take_of_length_le (by omega)])
      go_wp2_with fail
      go_ret
      exact ⟨_, rfl, by rw [← HQ.out]; exact hO.out, hW.out⟩
/-- A line found at a place. -/
theorem lines_cut {s : List UInt8} {f i : Nat} (hf : f ≤ i) (hi : i < s.length) (hn : (10 : UInt8) ∉ (s.drop f).take (i - f)) (e : s[i] = 10) : linesL (s.drop f) = (s.drop f).take (i + 1 - f) :: linesL (s.drop (i + 1)) := by
  have hd : s.drop f = (s.drop f).take (i - f) ++ 10 :: s.drop (i + 1) := by
    conv => lhs; rw [← List.take_append_drop (i - f) (s.drop f), List.drop_drop, show f + (i - f) = i from by omega, List.drop_eq_getElem_cons hi, e]
  have hl : ((s.drop f).take (i - f)).length = i - f := by simp; omega
  rw [show (s.drop f).take (i + 1 - f) = (s.drop f).take (i - f) ++ [10] from by
    conv => lhs; rw [hd]
    rw [List.take_append, hl, show i + 1 - f - (i - f) = 1 from by omega, List.take_of_length_le (by omega)]; rfl]
  conv => lhs; rw [hd]
  exact linesL_end hn _
theorem lines_rest {s : List UInt8} {f i : Nat} (hf : f ≤ i) (hi : i + 1 = s.length) (hn : (10 : UInt8) ∉ (s.drop f).take (i - f)) (e : s[i]'(by omega) ≠ 10) : linesL (s.drop f) = (s.drop f).take (i + 1 - f) :: linesL (s.drop (i + 1)) := by
  have hd : s.drop f = (s.drop f).take (i - f) ++ [s[i]] := by
    have e1 : s.drop i = [s[i]] := by rw [List.drop_eq_getElem_cons (show i < s.length by omega), List.drop_eq_nil_of_le (by omega)]
    conv => lhs; rw [← List.take_append_drop (i - f) (s.drop f), List.drop_drop, show f + (i - f) = i from by omega, e1]
  rw [List.take_of_length_le (by simp; omega), List.drop_eq_nil_of_le (show s.length ≤ i + 1 by omega)]
  refine linesL_last ?_ (by intro h; rw [h] at hd; simp at hd)
  rw [hd]
  intro h
  rcases List.mem_append.1 h with h | h
  · exact hn h
  · rw [List.mem_singleton] at h; exact e h.symm
theorem lines_on {s : List UInt8} {f i : Nat} (hf : f ≤ i) (hi : i < s.length) (hn : (10 : UInt8) ∉ (s.drop f).take (i - f)) (e : s[i] ≠ 10) : (10 : UInt8) ∉ (s.drop f).take (i + 1 - f) := by
  have hl : ((s.drop f).take (i - f)).length = i - f := by simp; omega
  rw [show i + 1 - f = (i - f) + 1 from by omega, List.take_succ_eq_append_getElem (by simp; omega)]
  intro h
  rcases List.mem_append.1 h with h | h
  · exact hn h
  · rw [List.mem_singleton, List.getElem_drop] at h
    have : f + (i - f) = i := by omega
    simp only [this] at h
    exact e h.symm
set_option maxRecDepth 100000 in
set_option maxHeartbeats 4000000 in
theorem rsplit_any (s : List UInt8) (w : World) (hl : s.length ≤ 4194304) : Calls Try.prog 21 #[.string ⟨s.toArray⟩] w fun e w' => ∃ v', e = .returned v' ∧ OwnS w' w.heap.size v' (linesL s) ∧ Below w.heap.size w w' := by
  obtain ⟨i0, hi, hz0, hz1, hz2⟩ := info_parts Try.info9s
  have HR := Lib.hid (Below.refl w.heap.size w)
  go_enter Try.func21, Try.ntmps21
  go_wp2_with fail
  go_loopw [3, 4, 5] (fun o f i wr => ∃ (fk k : Nat) (d : List (List UInt8)), k ≤ s.length ∧ fk ≤ k ∧ i = .int .i64 k ∧ f = .int .i64 fk ∧ d.length ≤ k ∧ Hid (k = s.length → fk = k) ∧ Hid ((10 : UInt8) ∉ (s.drop fk).take (k - fk)) ∧ Hid (d ++ linesL (s.drop fk) = linesL s) ∧ Hid (OwnS wr w.heap.size o d) ∧ Hid (Below w.heap.size w wr)) (fun _ _ i _ => s.length - (intOf i).toNat)
  case atStart => exact ⟨0, 0, [], Nat.zero_le _, Nat.le_refl _, rfl, rfl, Nat.le_refl _, Lib.hid (fun _ => rfl), Lib.hid (by simp), Lib.hid rfl, Lib.hid (ownS_nil _ _), HR⟩
  case round =>
    obtain ⟨fk, k, d, hk, hfk, rfl, rfl, hdk, hend, hno, hE, hO, hW⟩ := hrel
    obtain ⟨oa, oc, rfl⟩ := ownS_slice hO.out
    by_cases hlt : k < s.length
    · have hx := idx_eq s k hlt
      have hex := extract_list s fk (k + 1)
      have hB0 : w.heap.size ≤ wr.heap.size := hW.out.size
      have key : ∀ (go : Bool), Hid (go = true → linesL (s.drop fk) = (s.drop fk).take (k + 1 - fk) :: linesL (s.drop (k + 1))) → True := fun _ _ => trivial
      clear key
      have HCut : Hid ((s[k] = 10 ∨ k + 1 = s.length) → linesL (s.drop fk) = (s.drop fk).take (k + 1 - fk) :: linesL (s.drop (k + 1))) := Lib.hid (fun h => by
        by_cases e : s[k] = 10
        · exact lines_cut hfk hlt hno.out e
        · exact lines_rest hfk (h.resolve_left e) hno.out e)
      have HOn : Hid (s[k] ≠ 10 → (10 : UInt8) ∉ (s.drop fk).take (k + 1 - fk)) := Lib.hid (fun e => lines_on hfk hlt hno.out e)
      by_cases hc : s[k] = 10 ∨ k + 1 = s.length
      · have HL := Lib.hid (HCut.out hc)
        have HN : Hid (d ++ [(s.drop fk).take (k + 1 - fk)] ++ linesL (s.drop (k + 1)) = linesL s) := Lib.hid (by rw [← hE.out, HL.out]; simp)
        have HZ : Hid ((10 : UInt8) ∉ (s.drop (k + 1)).take (k + 1 - (k + 1))) := Lib.hid (by simp)
        generalize (s.drop fk).take (k + 1 - fk) = x at *
        by_cases e : s[k] = 10
        · have g1 : (((s[k]).toNat : Int) == 10) = true := by rw [e]; rfl
          generalize s[k] = y at *
          clear hc e
          go_wp2_with (at_builtin; refine wpList_own_src _ rfl _ _ 24 24 rfl w.heap.size 9 i0 (.string ByteArray.empty) 1 16 Try.underlying24 hi hz0 hz1 hz2 rfl (by decide) _ _ _ rfl (World.ownsRow.alloc hO.out _) _ 1 [.string ⟨x.toArray⟩] rfl (srcS_one _ _) (by unfold maxLen; omega) (by omega) (by simp; omega) ?_)
          intro v5 w5 hown5 hg5
          have O5 : Hid (OwnS w5 w.heap.size v5 (d ++ [x])) := Lib.hid (ownS_push hown5)
          have B5 : Hid (Below w.heap.size w w5) := Lib.hid ((hW.out.alloc hW.out.size _).grown hg5.gb (by simp; omega) (fun q hq => (World.ownsRow.lt hO.out q hq).1))
          clear hown5 hg5
          go_wp2_with fail
          go_roundw
          case rel => exact ⟨k + 1, k + 1, d ++ [x], by omega, by omega, by go_num, by go_num, by simp; omega, Lib.hid (fun _ => rfl), HZ, HN, O5, B5⟩
          case measure => simp [intOf]; omega
        · have g1 : (((s[k]).toNat : Int) == 10) = false := by
            rw [beq_eq_false_iff_ne]; intro k2; exact e (UInt8.toNat_inj.1 (by rw [show (10 : UInt8).toNat = 10 from rfl]; omega))
          have hk1 : k + 1 = s.length := hc.resolve_left e
          have g2 : ((k : Int) == (s.length : Int) - 1) = true := by rw [beq_iff_eq]; omega
          generalize s[k] = y at *
          clear hc e hk1
          go_wp2_with (at_builtin; refine wpList_own_src _ rfl _ _ 24 24 rfl w.heap.size 9 i0 (.string ByteArray.empty) 1 16 Try.underlying24 hi hz0 hz1 hz2 rfl (by decide) _ _ _ rfl (World.ownsRow.alloc hO.out _) _ 1 [.string ⟨x.toArray⟩] rfl (srcS_one _ _) (by unfold maxLen; omega) (by omega) (by simp; omega) ?_)
          intro v5 w5 hown5 hg5
          have O5 : Hid (OwnS w5 w.heap.size v5 (d ++ [x])) := Lib.hid (ownS_push hown5)
          have B5 : Hid (Below w.heap.size w w5) := Lib.hid ((hW.out.alloc hW.out.size _).grown hg5.gb (by simp; omega) (fun q hq => (World.ownsRow.lt hO.out q hq).1))
          clear hown5 hg5
          go_wp2_with fail
          go_roundw
          case rel => exact ⟨k + 1, k + 1, d ++ [x], by omega, by omega, by go_num, by go_num, by simp; omega, Lib.hid (fun _ => rfl), HZ, HN, O5, B5⟩
          case measure => simp [intOf]; omega
      · have e : s[k] ≠ 10 := fun h => hc (Or.inl h)
        have g1 : (((s[k]).toNat : Int) == 10) = false := by
          rw [beq_eq_false_iff_ne]; intro k2; exact e (UInt8.toNat_inj.1 (by rw [show (10 : UInt8).toNat = 10 from rfl]; omega))
        have g2 : ((k : Int) == (s.length : Int) - 1) = false := by rw [beq_eq_false_iff_ne]; omega
        have HZ := Lib.hid (HOn.out e)
        have hne : k + 1 ≠ s.length := fun h => hc (Or.inr h)
        have hlt2 : k + 1 < s.length := by omega
        generalize s[k] = y at *
        clear hc e hne
        go_wp2_with fail
        go_roundw
        case rel => exact ⟨fk, k + 1, d, by omega, by omega, by go_num, rfl, by omega, Lib.hid (fun h => by omega), HZ, hE, hO, hW⟩
        case measure => simp [intOf]; omega
    · have HQ : Hid (d = linesL s) := Lib.hid (by
        have h1 : k = s.length := by omega
        have h2 := hend.out h1
        have := hE.out
        rw [h2, h1, List.drop_length] at this
        simpa [linesL] using this)
      go_wp2_with fail
      go_ret
      exact ⟨_, rfl, by rw [← HQ.out]; exact hO.out, hW.out⟩
end Go.Proofs.Ytfiogjdjcocbnaa
