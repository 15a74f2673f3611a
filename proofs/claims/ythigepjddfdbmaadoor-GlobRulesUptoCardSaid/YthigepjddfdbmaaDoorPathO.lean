/- The walks of the reference's Join, Parent, Under. -/
import Derived.Test.YthigepjddfdbmaaDoorPathN
namespace Go.Proofs.YthigepjddfdbmaaDoor
open Go.RowKit Go.Lib

theorem sumL_take (l : List (List UInt8)) (k : Nat) : sumL (l.take k) ≤ sumL l := by
  induction l generalizing k with
  | nil => simp
  | cons a r ih =>
    cases k with
    | zero => simp [sumL]
    | succ k => rw [List.take_succ_cons, sumL_cons, sumL_cons]; have := ih k; omega
theorem take_snoc {l : List (List UInt8)} {k : Nat} (hk : k < l.length) : l.take (k + 1) = l.take k ++ [l.getD k []] := by
  rw [List.take_succ_eq_append_getElem hk]
  simp [List.getD, List.getElem?_eq_getElem hk]
theorem join_first {l : List (List UInt8)} (hk : 0 < l.length) : joinL (l.take 1) = l.getD 0 [] := by
  rw [take_snoc hk]; simp [joinL]
theorem join_next {l : List (List UInt8)} {k : Nat} (h0 : 0 < k) (hk : k < l.length) : joinL (l.take (k + 1)) = joinL (l.take k) ++ 47 :: l.getD k [] := by
  rw [take_snoc hk]
  exact joinL_snoc _ (List.length_pos_iff.1 (by rw [List.length_take]; omega)) _
set_option maxRecDepth 100000 in
set_option maxHeartbeats 2000000 in
theorem rjoin_any (S : Nat → Prop) (v : Value) (l : List (List UInt8)) (w : World) (h : StrsC S w v l) (hl : sumL l ≤ 4194304) : Calls Tryd.prog 37 #[v] w fun e w' => e = .returned (.string ⟨(joinL l).toArray⟩) ∧ w = w' := by
  have hlen := sumL_len l
  have HL : Hid (∀ k, (joinL (l.take k)).length ≤ 4194304) := Lib.hid (fun k => by have := sumL_join (l.take k); have := sumL_take l k; omega)
  have H := Lib.hid h
  obtain ⟨a, c, rfl⟩ := h.shape
  clear h
  go_enter Tryd.func37, Tryd.ntmps37
  go_wp2_with fail
  go_loop [3, 4] (fun o i => ∃ (k : Nat) (t : List UInt8), k ≤ l.length ∧ i = .int .i64 k ∧ o = .string ⟨t.toArray⟩ ∧ Hid (t = joinL (l.take k))) (fun _ i => l.length - (intOf i).toNat)
  case atStart => exact ⟨0, [], Nat.zero_le _, rfl, rfl, Lib.hid rfl⟩
  case round =>
    obtain ⟨k, t, hk, rfl, rfl, ht⟩ := hrel
    by_cases hlt : k < l.length
    · obtain ⟨ba, rfl, _, _, h3⟩ := H.out.at (by omega)
      have hc := h3 k hlt
      have hl1 : t.length ≤ 4194304 := by rw [ht.out]; exact HL.out k
      by_cases h0 : k = 0
      · subst h0
        have hc0 : w.cell? ba = some (.string ⟨(l.getD 0 []).toArray⟩) := by rw [← hc]; congr 1
        have HT : Hid (l.getD 0 [] = joinL (l.take (0 + 1))) := Lib.hid (join_first hlt).symm
        have hl2 : (l.getD 0 []).length ≤ 4194304 := by rw [HT.out]; exact HL.out _
        have ht0 : t = [] := by rw [ht.out]; rfl
        subst ht0
        generalize l.getD 0 [] = x at *
        have hcat : (⟨#[]⟩ : ByteArray) ++ ⟨x.toArray⟩ = ⟨x.toArray⟩ := by apply ByteArray.ext; simp
        clear h3 ht
        go_wp2_with fail
        go_round
        case rel => exact ⟨1, x, by omega, by go_num, by first | rfl | simp, HT⟩
        case measure => simp [intOf]; omega
      · have HT : Hid (t ++ 47 :: l.getD k [] = joinL (l.take (k + 1))) := Lib.hid (by rw [join_next (by omega) hlt, ht.out])
        have hl2 : t.length + (l.getD k []).length + 1 ≤ 4194304 := by
          have := HL.out (k + 1)
          rw [← HT.out] at this
          simp at this ⊢; omega
        have hpos : 0 < k := by omega
        generalize l.getD k [] = x at *
        have hcat : (⟨t.toArray⟩ : ByteArray) ++ ⟨#[47]⟩ ++ ⟨x.toArray⟩ = ⟨(t ++ 47 :: x).toArray⟩ := by apply ByteArray.ext; simp
        clear h3 ht h0
        go_wp2_with fail
        go_round
        case rel => exact ⟨k + 1, t ++ 47 :: x, by omega, by go_num, by first | rfl | simp, HT⟩
        case measure => simp [intOf]; omega
    · have HT : Hid (t = joinL l) := Lib.hid (by rw [ht.out, List.take_of_length_le (by omega)])
      go_wp2_with fail
      go_ret
      exact ⟨by rw [HT.out]; rfl, rfl⟩
theorem sumL_flat (r : List (List UInt8)) : sumL r = (r.flatMap (fun b => (47 : UInt8) :: b)).length := by
  induction r with
  | nil => rfl
  | cons b s ih => rw [sumL_cons, ih, List.flatMap_cons, List.length_append, List.length_cons]
theorem parent_names (p : List UInt8) : parentN p = if (namesL p).length < 2 then [] else joinL (namesL p).dropLast := by
  by_cases h0 : p = []
  · subst h0; rw [if_pos (by simp [namesL])]; exact parentN_none (by simp)
  · have hn : namesL p = splitL p := by unfold namesL; rw [if_neg h0]
    have hj := join_split p
    have hp := splitL_parts p
    rw [hn]
    have hne := splitL_ne p
    generalize splitL p = l at *
    rw [← hj]
    have hd := List.dropLast_concat_getLast hne
    have hx := hp _ (List.getLast_mem hne)
    generalize l.getLast hne = x at *
    have hlen := congrArg List.length hd
    rw [List.length_append, List.length_singleton] at hlen
    by_cases hl : l.length < 2
    · rw [if_pos hl]
      have : l.dropLast = [] := List.length_eq_zero_iff.1 (by omega)
      rw [this] at hd
      rw [← hd]
      refine parentN_none ?_
      simpa [joinL] using hx
    · rw [if_neg hl]
      have : l.dropLast ≠ [] := fun e => by rw [e] at hlen; simp at hlen; omega
      conv => lhs; rw [← hd]
      exact parentN_join this hx
theorem under_take {p f : List UInt8} (hf : f ≠ []) : underB p f = (decide (f.length < p.length) && ((p.take f.length == f) && decide (p.getD f.length 0 = 47))) := by
  unfold underB
  rw [if_neg hf]
  clear hf
  induction f generalizing p with
  | nil =>
    cases p with
    | nil => rfl
    | cons a t => simp [List.isPrefixOf]; rw [Bool.eq_iff_iff]; simp; exact eq_comm
  | cons x xs ih =>
    cases p with
    | nil => rfl
    | cons a t =>
      simp only [List.cons_append, List.isPrefixOf, ih, List.length_cons, List.take_succ_cons, List.getD_cons_succ, Nat.add_lt_add_iff_right]
      rw [Bool.eq_iff_iff]
      simp
      constructor
      · rintro ⟨rfl, h1, h2, h3⟩; exact ⟨h1, ⟨rfl, h2⟩, h3⟩
      · rintro ⟨h1, ⟨rfl, h2⟩, h3⟩; exact ⟨rfl, h1, h2, h3⟩
theorem str_take (w : World) (x : List UInt8) (k : Nat) (h2 : k ≤ x.length) : (Instr.slice 9 (.string ⟨x.toArray⟩) none (some (.int .i64 (k : Int))) none).run Tryd.prog w = .ok (.string ⟨(x.take k).toArray⟩) w := by
  rw [run_slice_string_h _ _ _ (by kernel_rfl) _ _ (by omega) (by rw [at_size]; omega)]
  congr 2
  have e2 : (k : Int).toNat = k := by omega
  rw [e2, extract_list]
  simp
set_option maxRecDepth 100000 in
set_option maxHeartbeats 1000000 in
theorem runder_any (p f : List UInt8) (w : World) (hp : p.length ≤ 4194304) : Calls Tryd.prog 23 #[.string ⟨p.toArray⟩, .string ⟨f.toArray⟩] w fun e w' => e = .returned (.bool (underB p f)) ∧ w = w' := by
  by_cases hf : f = []
  · subst hf
    go_enter Tryd.func23, Tryd.ntmps23
    go_wp2_with fail
    go_ret
    refine ⟨?_, rfl⟩
    have e : underB p [] = !p.isEmpty := by unfold underB; rw [if_pos rfl]; cases p <;> simp
    rw [e]; rfl
  · have HU := Lib.hid (under_take (p := p) hf)
    have g1 : f.isEmpty = false := by cases f; exact absurd rfl hf; rfl
    obtain ⟨r, hr⟩ : ∃ r, r = underB p f := ⟨_, rfl⟩
    rw [← hr] at HU ⊢
    clear hf hr
    by_cases h1 : f.length < p.length
    · rw [decide_eq_true h1] at HU
      have hx := fun W => str_take W p f.length (by omega)
      have hy := fun W => str_at W p f.length h1
      generalize p.take f.length = x at *
      generalize p.getD f.length 0 = y at *
      have HY : Hid (decide (y = 47) = ((y.toNat : Int) == 47)) := Lib.hid (by
        rw [Bool.eq_iff_iff]
        simp only [decide_eq_true_eq, beq_iff_eq]
        constructor
        · rintro rfl; rfl
        · intro e; exact UInt8.toNat_inj.1 (by rw [show (47 : UInt8).toNat = 47 from rfl]; omega))
      generalize y.toNat = yn at *
      cases he : (x == f)
      · rw [he] at HU
        go_enter Tryd.func23, Tryd.ntmps23
        go_wp2_with fail
        go_ret
        exact ⟨by rw [HU.out]; rfl, rfl⟩
      · rw [he, HY.out] at HU
        go_enter Tryd.func23, Tryd.ntmps23
        go_wp2_with fail
        go_ret
        exact ⟨by rw [HU.out]; rfl, rfl⟩
    · rw [decide_eq_false h1] at HU
      go_enter Tryd.func23, Tryd.ntmps23
      go_wp2_with fail
      go_ret
      exact ⟨by rw [HU.out]; rfl, rfl⟩
end Go.Proofs.YthigepjddfdbmaaDoor
