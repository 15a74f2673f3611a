/- The reference's walks of Find, in, with; the laws' same. -/
import Derived.Test.YtfphkbbgbfnhaaaDagQ
namespace Go.Proofs.Ytfphkbbgbfnhaaa
open Go.RowKit Go.Shelf Go.Maps Go.Lib Go.Sort

theorem eq_step {a b : List (List UInt8)} {k : Nat} (ha : k < a.length) (hb : k < b.length) (h : a.take k = b.take k) (e : a.getD k [] = b.getD k []) : a.take (k + 1) = b.take (k + 1) := by
  rw [take_snoc (d := []) ha, take_snoc (d := []) hb, h, e]
theorem eq_stop {a b : List (List UInt8)} {k : Nat} (e : a.getD k [] ≠ b.getD k []) : decide (a = b) = false := by
  apply decide_eq_false
  rintro rfl
  exact e rfl
set_option maxRecDepth 100000 in
set_option maxHeartbeats 2000000 in
theorem same_any (S T : Nat → Prop) (va vb : Value) (a b : List (List UInt8)) (w : World) (ha : StrsC S w va a) (hb : StrsC T w vb b) (hal : a.length ≤ 4194304) (hbl : b.length ≤ 4194304) :
    Calls Try.prog 12 #[va, vb] w fun e w' => e = .returned (.bool (decide (a = b))) ∧ ∃ n, w' = w.drewN n := by
  obtain ⟨aa, ac, rfl⟩ := ha.shape
  obtain ⟨ba, bc, rfl⟩ := hb.shape
  generalize hq : decide (a = b) = q
  have Q := Lib.hid hq
  clear hq
  by_cases hlen : a.length = b.length
  · have HA := Lib.hid ha
    have HB := Lib.hid hb
    have g0 : ((a.length : Int) != (b.length : Int)) = false := by rw [hlen]; simp
    have HL := Lib.hid hlen
    clear ha hb hlen
    go_enter Try.func12, Try.ntmps12
    go_wp2_with fail
    go_loopw [5, 13] (fun _ i wr => ∃ k n : Nat, k ≤ a.length ∧ i = .int .i64 k ∧ Hid (a.take k = b.take k) ∧ wr = w.drewN n) (fun _ i _ => a.length - (intOf i).toNat)
    case atStart => exact ⟨0, 0, Nat.zero_le _, rfl, Lib.hid rfl, rfl⟩
    case round =>
      obtain ⟨k, n, hk, rfl, he, rfl⟩ := hrel
      by_cases hlt : k < a.length
      · have hltb : k < b.length := by have := HL.out; omega
        obtain ⟨ga, oa, rfl, _, _, _, hxa⟩ := HA.out.at (by omega)
        obtain ⟨gb, ob, rfl, _, _, _, hxb⟩ := HB.out.at (by omega)
        have c1 := hxa k hlt
        have c2 := hxb k hltb
        have HE1 : Hid (a.getD k [] = b.getD k [] → a.take (k + 1) = b.take (k + 1)) := Lib.hid (fun e => eq_step hlt hltb he.out e)
        have HE2 : Hid (a.getD k [] ≠ b.getD k [] → q = false) := Lib.hid (fun e => by rw [← Q.out]; exact eq_stop e)
        generalize a.getD k [] = x at *
        generalize b.getD k [] = y at *
        clear hxa hxb g0
        by_cases hxy : x = y
        · have gx : (x == y) = true := by rw [hxy]; simp
          have HE := Lib.hid (HE1.out hxy)
          clear hxy
          go_wp2_with fail
          go_quiet (fail)
          go_wp2_with fail
          go_roundw
          case rel => exact ⟨k + 1, _, by omega, by go_num, HE, rfl⟩
          case measure => simp [intOf]; omega
        · have gx : (x == y) = false := by simpa using hxy
          have HE := Lib.hid (HE2.out hxy)
          clear hxy
          go_wp2_with fail
          go_quiet (fail)
          go_wp2_with fail
          go_ret
          exact ⟨by rw [HE.out]; rfl, _, World.drewN_drewN _ _ _⟩
      · have hkl : k = a.length := by omega
        have HQ : Hid (q = true) := Lib.hid (Q.out.symm.trans <| decide_eq_true (by
          have := he.out
          rwa [hkl, List.take_length, HL.out, List.take_length] at this))
        clear hkl g0
        go_wp2_with fail
        go_ret
        exact ⟨by rw [HQ.out]; rfl, n, rfl⟩
  · have HQ : Hid (q = false) := Lib.hid (Q.out.symm.trans <| decide_eq_false (fun e => hlen (by rw [e])))
    have g0 : ((a.length : Int) != (b.length : Int)) = true := by rw [bne_iff_ne]; omega
    clear ha hb hlen
    go_enter Try.func12, Try.ntmps12
    go_wp2_with fail
    go_ret
    exact ⟨by rw [HQ.out]; rfl, 0, rfl⟩
/-- A node of the reference's in memory. -/
def nodeRel (S : Nat → Prop) (w : World) (h : Txt × List Txt) (cs : List Value) : Prop := ∃ v, cs = [.string ⟨h.1.toArray⟩, v] ∧ StrsC S w v h.2
theorem node_keeps : Keeps nodeRel := by
  rintro S S' w w' h cs ⟨v, rfl, h1⟩ hk
  exact ⟨v, rfl, h1.kept hk⟩
abbrev NodesC := RowsC nodeRel 2
theorem NodesC.at {S : Nat → Prop} {w : World} {a : Option Addr} {c : Nat} {rg : List (Txt × List Txt)} (h : NodesC S w (.slice a rg.length c) rg) (hn : 0 < rg.length) :
    ∃ g o, a = some ⟨g, o, none⟩ ∧ S g ∧ rg.length ≤ c ∧ c ≤ 9223372036854775807 ∧ ∀ k, k < rg.length → ∃ v, w.cell? ⟨g, o + k * 2, none⟩ = some (.string ⟨((rg.getD k ([], [])).1).toArray⟩) ∧ w.cell? ⟨g, o + k * 2 + 1, none⟩ = some v ∧ StrsC S w v (rg.getD k ([], [])).2 := by
  obtain ⟨g, o, h1, h2, h3, h4, h5⟩ := RowsC.at h hn
  refine ⟨g, o, h1, h2, h3, h4, fun k hk => ?_⟩
  have he : rg[k]? = some (rg.getD k ([], [])) := by simp [List.getD, hk]
  obtain ⟨cs, _, ⟨v, rfl, h7⟩, h8⟩ := h5 k _ he
  have a0 := h8 0 _ rfl
  have a1 := h8 1 _ rfl
  rw [Nat.add_zero] at a0
  rw [← Nat.add_assoc] at a1
  exact ⟨v, a0, a1, h7⟩
/-- Where a name stands, or -1. -/
def findN (rg : List (Txt × List Txt)) (x : Txt) : Int := if x ∈ rg.map (·.1) then (((rg.map (·.1)).idxOf x : Nat) : Int) else -1
theorem find_none {l : List Txt} {x : Txt} (h : x ∉ l) (k : Nat) (hk : k < l.length) : l.getD k [] ≠ x := fun e => h (by rw [← e, getD_at hk]; exact List.getElem_mem hk)
set_option maxRecDepth 100000 in
set_option maxHeartbeats 2000000 in
theorem find_any (S : Nat → Prop) (v : Value) (rg : List (Txt × List Txt)) (x : Txt) (w : World) (h : NodesC S w v rg) (hl : rg.length ≤ 4194304) :
    Calls Try.prog 11 #[v, .string ⟨x.toArray⟩] w fun e w' => e = .returned (.int .i64 (findN rg x)) ∧ w = w' := by
  obtain ⟨a, c, rfl⟩ := RowsC.shape h
  generalize hq : findN rg x = q
  have Q := Lib.hid hq
  clear hq
  have H := Lib.hid h
  clear h
  go_enter Try.func11, Try.ntmps11
  go_wp2_with fail
  go_loop [5] (fun i => ∃ k : Nat, k ≤ rg.length ∧ i = .int .i64 k ∧ Hid (x ∉ (rg.map (·.1)).take k)) (fun i => rg.length - (intOf i).toNat)
  case atStart => exact ⟨0, Nat.zero_le _, rfl, Lib.hid (by simp)⟩
  case round =>
    obtain ⟨k, hk, rfl, h0⟩ := hrel
    by_cases hlt : k < rg.length
    · obtain ⟨g, o, rfl, _, _, _, hc⟩ := NodesC.at H.out (by omega)
      obtain ⟨_, c1, _, _⟩ := hc k hlt
      have hkm : k < (rg.map (·.1)).length := by simpa using hlt
      have HG : Hid ((rg.map (·.1)).getD k [] = (rg.getD k ([], [])).1) := Lib.hid (by simp [List.getD, hlt])
      have HT : Hid ((rg.map (·.1)).take (k + 1) = (rg.map (·.1)).take k ++ [(rg.getD k ([], [])).1]) := Lib.hid (by rw [take_snoc (d := []) hkm, HG.out])
      have HIX : Hid ((rg.getD k ([], [])).1 = x → q = (k : Int)) := Lib.hid (fun e => by
        rw [← Q.out]
        have hm : (rg.map (·.1))[k] = x := by rw [← e, ← HG.out, getD_at hkm]
        have hx : x ∈ rg.map (·.1) := by rw [← hm]; exact List.getElem_mem hkm
        unfold findN
        rw [if_pos hx]
        congr 1
        have h2 : rg.map (·.1) = (rg.map (·.1)).take k ++ (rg.map (·.1)).drop k := (List.take_append_drop _ _).symm
        rw [h2, List.idxOf_append, if_neg h0.out, List.drop_eq_getElem_cons hkm, hm, List.idxOf_cons_self, List.length_take]
        omega)
      clear hc hkm HG
      generalize (rg.getD k ([], [])).1 = y at *
      by_cases hxy : y = x
      · have gx : (y == x) = true := by rw [hxy]; simp
        have HE := Lib.hid (HIX.out hxy)
        clear hxy
        go_wp2_with fail
        go_ret
        exact ⟨by rw [HE.out]; rfl, rfl⟩
      · have gx : (y == x) = false := by simpa using hxy
        have HE : Hid (x ∉ (rg.map (·.1)).take (k + 1)) := Lib.hid (by
          rw [HT.out, List.mem_append, List.mem_singleton]
          rintro (h1 | h1)
          · exact h0.out h1
          · exact hxy h1.symm)
        clear hxy
        go_wp2_with fail
        go_round
        case rel => exact ⟨k + 1, by omega, by go_num, HE⟩
        case measure => simp [intOf]; omega
    · have HE : Hid (q = -1) := Lib.hid (by
        rw [← Q.out]
        unfold findN
        rw [if_neg]
        have := h0.out
        rwa [List.take_of_length_le (by simp; omega)] at this)
      go_wp2_with fail
      go_ret
      exact ⟨by rw [HE.out]; rfl, rfl⟩
set_option maxRecDepth 100000 in
set_option maxHeartbeats 2000000 in
theorem in_any (S : Nat → Prop) (v : Value) (l : List Txt) (x : Txt) (w : World) (h : StrsC S w v l) (hl : l.length ≤ 4194304) :
    Calls Try.prog 31 #[v, .string ⟨x.toArray⟩] w fun e w' => e = .returned (.bool (decide (x ∈ l))) ∧ w = w' := by
  obtain ⟨a, c, rfl⟩ := h.shape
  generalize hq : decide (x ∈ l) = q
  have Q := Lib.hid hq
  clear hq
  have H := Lib.hid h
  clear h
  go_enter Try.func31, Try.ntmps31
  go_wp2_with fail
  go_loop [5] (fun i => ∃ k : Nat, k ≤ l.length ∧ i = .int .i64 k ∧ Hid (x ∉ l.take k)) (fun i => l.length - (intOf i).toNat)
  case atStart => exact ⟨0, Nat.zero_le _, rfl, Lib.hid (by simp)⟩
  case round =>
    obtain ⟨k, hk, rfl, h0⟩ := hrel
    by_cases hlt : k < l.length
    · obtain ⟨g, o, rfl, _, _, _, hc⟩ := H.out.at (by omega)
      have c1 := hc k hlt
      have HT : Hid (l.take (k + 1) = l.take k ++ [l.getD k []]) := Lib.hid (take_snoc hlt)
      have HM : Hid (l.getD k [] ∈ l) := Lib.hid (by rw [getD_at hlt]; exact List.getElem_mem hlt)
      clear hc
      generalize l.getD k [] = y at *
      by_cases hxy : y = x
      · have gx : (y == x) = true := by rw [hxy]; simp
        have HE : Hid (q = true) := Lib.hid (by rw [← Q.out, ← hxy]; exact decide_eq_true HM.out)
        clear hxy
        go_wp2_with fail
        go_ret
        exact ⟨by rw [HE.out]; rfl, rfl⟩
      · have gx : (y == x) = false := by simpa using hxy
        have HE : Hid (x ∉ l.take (k + 1)) := Lib.hid (by
          rw [HT.out, List.mem_append, List.mem_singleton]
          rintro (h1 | h1)
          · exact h0.out h1
          · exact hxy h1.symm)
        clear hxy
        go_wp2_with fail
        go_round
        case rel => exact ⟨k + 1, by omega, by go_num, HE⟩
        case measure => simp [intOf]; omega
    · have HE : Hid (q = false) := Lib.hid (by
        rw [← Q.out]
        apply decide_eq_false
        have := h0.out
        rwa [List.take_of_length_le (by omega)] at this)
      go_wp2_with fail
      go_ret
      exact ⟨by rw [HE.out]; rfl, rfl⟩
/-- A text put among some in order, at its place. -/
theorem with_at {l : List Txt} (ha : Asc l) {s : Txt} (hs : s ∉ l) {m : Nat} (h1 : ∀ j, m ≤ j → j < l.length → s < l.getD j []) (h2 : m = 0 ∨ ¬ s < l.getD (m - 1) []) (hm : m ≤ l.length) : l.take m ++ [s] ++ l.drop m = withN l s := by
  have hsm : ∀ x ∈ l.take m, x < s := fun x hx => by
    rcases h2 with rfl | h2
    · simp at hx
    · have hm0 : 0 < m := by
        rcases Nat.eq_zero_or_pos m with rfl | h
        · simp at hx
        · exact h
      have hlast : l.getD (m - 1) [] < s := by
        rcases Classical.em (l.getD (m - 1) [] < s) with h | h
        · exact h
        · exact absurd (t_tri _ _ h2 h) (fun e => hs (by rw [e, getD_at (by omega)]; exact List.getElem_mem (by omega)))
      obtain ⟨i, hi, rfl⟩ := List.getElem_of_mem hx
      have hi2 : i < m := by rw [List.length_take] at hi; omega
      rw [List.getElem_take]
      by_cases e : i = m - 1
      · subst e; rwa [getD_at (by omega)] at hlast
      · refine t_trans ?_ hlast
        rw [getD_at (by omega)]
        exact (List.pairwise_iff_getElem.1 ha) i (m - 1) (by omega) (by omega) (by omega)
  have hsd : ∀ x ∈ l.drop m, s < x := fun x hx => by
    obtain ⟨i, hi, rfl⟩ := List.getElem_of_mem hx
    rw [List.length_drop] at hi
    rw [List.getElem_drop]
    have := h1 (m + i) (by omega) (by omega)
    rwa [getD_at (by omega)] at this
  have hasc : Asc (l.take m ++ [s] ++ l.drop m) := by
    unfold Asc
    have ha' : (l.take m ++ l.drop m).Pairwise (· < ·) := by rw [List.take_append_drop]; exact ha
    obtain ⟨p1, p2, p3⟩ := List.pairwise_append.1 ha'
    rw [List.append_assoc, List.pairwise_append]
    refine ⟨p1, ?_, fun x hx y hy => ?_⟩
    · rw [List.singleton_append, List.pairwise_cons]
      exact ⟨hsd, p2⟩
    · rcases List.mem_cons.1 hy with rfl | hy
      · exact hsm x hx
      · exact p3 x hx y hy
  refine asc_eq hasc (asc_withN ha s) (fun x => ?_)
  rw [mem_withN]
  simp only [List.mem_append, List.mem_singleton]
  have : x ∈ l ↔ x ∈ l.take m ∨ x ∈ l.drop m := by
    rw [← List.mem_append, List.take_append_drop]
  rw [this]
  constructor
  · rintro ((a | a) | a)
    · exact Or.inr (Or.inl a)
    · exact Or.inl a
    · exact Or.inr (Or.inr a)
  · rintro (a | a | a)
    · exact Or.inl (Or.inr a)
    · exact Or.inl (Or.inl a)
    · exact Or.inr a
set_option maxRecDepth 100000 in
set_option maxHeartbeats 4000000 in
theorem with_any (S : Nat → Prop) (v : Value) (l : List Txt) (s : Txt) (w : World) (hS : ∀ k, S k → k < w.heap.size) (h : StrsC S w v l) (ha : Asc l) (hl : l.length ≤ 4194304) :
    Calls Try.prog 36 #[v, .string ⟨s.toArray⟩] w fun e w' => ∃ v', e = .returned v' ∧ StrsC (fun k => S k ∨ (w.heap.size ≤ k ∧ k < w'.heap.size)) w' v' (withN l s) ∧ Below w.heap.size w w' := by
  obtain ⟨i0, hi, hz0, hz1, hz2⟩ := info_parts Try.info9s
  have HIN := Lib.hid (in_any S v l s w h hl)
  obtain ⟨a, c, rfl⟩ := h.shape
  have H := Lib.hid h
  by_cases hin : s ∈ l
  · have HW : Hid (withN l s = l) := Lib.hid (by unfold withN; rw [if_pos hin])
    rw [decide_eq_true hin] at HIN
    clear h hin
    go_enter Try.func36, Try.ntmps36
    go_wp2_with fail
    refine HIN.out.mono ?_
    rintro e w1 ⟨rfl, rfl⟩
    go_wp2_with fail
    go_ret
    exact ⟨_, rfl, by rw [HW.out]; exact H.out.kept (fun k hk => ⟨Or.inl hk, rfl⟩), Below.refl _ _⟩
  · rw [decide_eq_false hin] at HIN
    have HA := Lib.hid ha
    have HNI := Lib.hid hin
    have HC := Lib.hid (fun m (hm : m ≤ l.length) => H.out.cutH hm)
    have HD := Lib.hid (fun m (hm : m ≤ l.length) => H.out.cutL hm)
    clear h hin ha
    go_enter Try.func36, Try.ntmps36
    go_wp2_with fail
    refine HIN.out.mono ?_
    rintro e w1 ⟨rfl, rfl⟩
    go_wp2_with fail
    go_loop [5] (fun i => ∃ m : Nat, m ≤ l.length ∧ i = .int .i64 m ∧ Hid (∀ j, m ≤ j → j < l.length → s < l.getD j [])) (fun i => (intOf i).toNat)
    case atStart => exact ⟨l.length, Nat.le_refl _, rfl, Lib.hid (fun j h1 h2 => by omega)⟩
    case round =>
      obtain ⟨m, hm, rfl, h0⟩ := hrel
      have key : (0 < m ∧ s < l.getD (m - 1) []) ∨ (m = 0 ∨ (0 < m ∧ ¬ s < l.getD (m - 1) [])) := by
        rcases Nat.eq_zero_or_pos m with h | h
        · exact Or.inr (Or.inl h)
        · rcases Classical.em (s < l.getD (m - 1) []) with h2 | h2
          · exact Or.inl ⟨h, h2⟩
          · exact Or.inr (Or.inr ⟨h, h2⟩)
      rcases key with ⟨hm0, hlt⟩ | hex
      · obtain ⟨q, hq⟩ : ∃ q : Nat, (m : Int) - 1 = q := ⟨m - 1, by omega⟩
        have hqm : q + 1 = m := by omega
        obtain ⟨g, o, rfl, _, _, _, hc⟩ := H.out.at (by omega)
        have c1 := hc q (by omega)
        rw [show m - 1 = q by omega] at hlt
        have HL : Hid (∀ j, q ≤ j → j < l.length → s < l.getD j []) := Lib.hid (fun j h1 h2 => by
          by_cases e : j = q
          · subst e; exact hlt
          · exact h0.out j (by omega) h2)
        have g1 : Op.bytesLess s (l.getD q []) = true := by rw [bytesLess_eq]; exact decide_eq_true hlt
        have HQM := Lib.hid hqm
        clear hc hlt hqm
        generalize l.getD q [] = y at *
        go_wp2_with fail
        go_round
        case rel => exact ⟨q, by have := HQM.out; omega, by first | rfl | (congr 1), HL⟩
        case measure => simp [intOf]; have := HQM.out; omega
      · have H2 : Hid (m = 0 ∨ ¬ s < l.getD (m - 1) []) := Lib.hid (hex.imp_right (fun h => h.2))
        have HWN : Hid (l.take m ++ [s] ++ l.drop m = withN l s) := Lib.hid (with_at HA.out HNI.out h0.out H2.out hm)
        obtain ⟨a1, cc1, hr1, hs1⟩ := HC.out m hm
        obtain ⟨a2, cc2, hr2, hs2⟩ := HD.out m hm
        have htl : (l.take m).length ≤ 4194304 := by simp; omega
        have hdl : (l.drop m).length ≤ 4194304 := by simp; omega
        have HS1 := Lib.hid hs1
        have HS2 := Lib.hid hs2
        clear hs1 hs2 HC HD
        generalize l.take m = t1 at *
        generalize l.drop m = t2 at *
        rcases hex with hm0 | ⟨hm0, hnl⟩
        · have gd : decide (0 < m) = false := by rw [hm0]; rfl
          have HM0 := Lib.hid hm0
          clear hm0
          go_wp2_with (at_builtin; refine wpList_own_src _ rfl _ _ 23 23 rfl w.heap.size 9 i0 (.string ByteArray.empty) 1 16 Try.underlying23 hi hz0 hz1 hz2 rfl (by decide) _ _ _ rfl (ownS_empty w) _ t1.length (sv t1) rfl (StrsC.src (HS1.out.kept (fun k hk => ⟨hk, Below.heap_alloc _ _ _ (hS k hk)⟩))) (by unfold maxLen; simp; omega) (by simp; omega) (by simp) ?_)
          intro v5 w5 hown5 hg5
          have O5 : Hid (OwnS w5 w.heap.size v5 t1) := Lib.hid (by have := ownS_more (l := []) (by simp) hown5; simpa using this)
          have B5 : Hid (Below w.heap.size w w5) := Lib.hid (((Below.refl w.heap.size w).alloc (Nat.le_refl _) _).grown hg5.gb (by simp) (fun q hq => (World.ownsRow.lt (ownS_empty w) q hq).1))
          obtain ⟨a5, c5, rfl⟩ := ownS_slice O5.out
          have hs5 := B5.out.size
          clear hown5 hg5
          go_wp2_with (at_builtin; refine wpList_own_src _ rfl _ _ 23 23 rfl w.heap.size 9 i0 (.string ByteArray.empty) 1 16 Try.underlying23 hi hz0 hz1 hz2 rfl (by decide) _ _ _ rfl (World.ownsRow.alloc O5.out _) _ 1 [.string ⟨s.toArray⟩] rfl (srcS_one _ _) (by unfold maxLen; omega) (by omega) (by simp; omega) ?_)
          intro v6 w6 hown6 hg6
          have O6 : Hid (OwnS w6 w.heap.size v6 (t1 ++ [s])) := Lib.hid (ownS_push hown6)
          have B6 : Hid (Below w.heap.size w w6) := Lib.hid ((B5.out.alloc B5.out.size _).grown hg6.gb (by simp; omega) (fun q hq => (World.ownsRow.lt O5.out q hq).1))
          have hs6 := B6.out.size
          have HT6 : Hid ((t1 ++ [s]).length = t1.length + 1) := Lib.hid (by simp)
          obtain ⟨t6, ht6⟩ : ∃ t6, t1 ++ [s] = t6 := ⟨_, rfl⟩
          rw [ht6] at O6 HT6 HWN
          have hl6 : t6.length ≤ 4194305 := by have := HT6.out; omega
          clear hown6 hg6 ht6
          obtain ⟨a6, c6, rfl⟩ := ownS_slice O6.out
          go_wp2_with (at_builtin; refine wpList_own_src _ rfl _ _ 23 23 rfl w.heap.size 9 i0 (.string ByteArray.empty) 1 16 Try.underlying23 hi hz0 hz1 hz2 rfl (by decide) _ _ _ rfl O6.out _ t2.length (sv t2) rfl (StrsC.src (HS2.out.kept (fun k hk => ⟨hk, B6.out.block k (hS k hk)⟩))) (by unfold maxLen; omega) (by omega) (by omega) ?_)
          intro v7 w7 hown7 hg7
          have O7 : Hid (OwnS w7 w.heap.size v7 (t6 ++ t2)) := Lib.hid (ownS_more rfl hown7)
          have B7 : Hid (Below w.heap.size w w7) := Lib.hid (B6.out.grown hg7.gb (by omega) (fun q hq => (World.ownsRow.lt O6.out q hq).1))
          obtain ⟨a7, c7, rfl⟩ := row_slice hown7
          clear hown7 hg7
          go_wp2_with fail
          go_ret
          exact ⟨_, rfl, by rw [← HWN.out]; exact (ownS_c O7.out).kept (fun k hk => ⟨Or.inr hk, rfl⟩), B7.out⟩
        · obtain ⟨q, hq⟩ : ∃ q : Nat, (m : Int) - 1 = q := ⟨m - 1, by omega⟩
          obtain ⟨g, o, rfl, _, _, _, hc⟩ := H.out.at (by omega)
          have c1 := hc q (by omega)
          rw [show m - 1 = q by omega] at hnl
          have g1 : Op.bytesLess s (l.getD q []) = false := by rw [bytesLess_eq]; exact decide_eq_false hnl
          clear hc hnl
          generalize l.getD q [] = y at *
          go_wp2_with (at_builtin; refine wpList_own_src _ rfl _ _ 23 23 rfl w.heap.size 9 i0 (.string ByteArray.empty) 1 16 Try.underlying23 hi hz0 hz1 hz2 rfl (by decide) _ _ _ rfl (ownS_empty w) _ t1.length (sv t1) rfl (StrsC.src (HS1.out.kept (fun k hk => ⟨hk, Below.heap_alloc _ _ _ (hS k hk)⟩))) (by unfold maxLen; simp; omega) (by simp; omega) (by simp) ?_)
          intro v5 w5 hown5 hg5
          have O5 : Hid (OwnS w5 w.heap.size v5 t1) := Lib.hid (by have := ownS_more (l := []) (by simp) hown5; simpa using this)
          have B5 : Hid (Below w.heap.size w w5) := Lib.hid (((Below.refl w.heap.size w).alloc (Nat.le_refl _) _).grown hg5.gb (by simp) (fun q hq => (World.ownsRow.lt (ownS_empty w) q hq).1))
          obtain ⟨a5, c5, rfl⟩ := ownS_slice O5.out
          have hs5 := B5.out.size
          clear hown5 hg5
          go_wp2_with (at_builtin; refine wpList_own_src _ rfl _ _ 23 23 rfl w.heap.size 9 i0 (.string ByteArray.empty) 1 16 Try.underlying23 hi hz0 hz1 hz2 rfl (by decide) _ _ _ rfl (World.ownsRow.alloc O5.out _) _ 1 [.string ⟨s.toArray⟩] rfl (srcS_one _ _) (by unfold maxLen; omega) (by omega) (by simp; omega) ?_)
          intro v6 w6 hown6 hg6
          have O6 : Hid (OwnS w6 w.heap.size v6 (t1 ++ [s])) := Lib.hid (ownS_push hown6)
          have B6 : Hid (Below w.heap.size w w6) := Lib.hid ((B5.out.alloc B5.out.size _).grown hg6.gb (by simp; omega) (fun q hq => (World.ownsRow.lt O5.out q hq).1))
          have hs6 := B6.out.size
          have HT6 : Hid ((t1 ++ [s]).length = t1.length + 1) := Lib.hid (by simp)
          obtain ⟨t6, ht6⟩ : ∃ t6, t1 ++ [s] = t6 := ⟨_, rfl⟩
          rw [ht6] at O6 HT6 HWN
          have hl6 : t6.length ≤ 4194305 := by have := HT6.out; omega
          clear hown6 hg6 ht6
          obtain ⟨a6, c6, rfl⟩ := ownS_slice O6.out
          go_wp2_with (at_builtin; refine wpList_own_src _ rfl _ _ 23 23 rfl w.heap.size 9 i0 (.string ByteArray.empty) 1 16 Try.underlying23 hi hz0 hz1 hz2 rfl (by decide) _ _ _ rfl O6.out _ t2.length (sv t2) rfl (StrsC.src (HS2.out.kept (fun k hk => ⟨hk, B6.out.block k (hS k hk)⟩))) (by unfold maxLen; omega) (by omega) (by omega) ?_)
          intro v7 w7 hown7 hg7
          have O7 : Hid (OwnS w7 w.heap.size v7 (t6 ++ t2)) := Lib.hid (ownS_more rfl hown7)
          have B7 : Hid (Below w.heap.size w w7) := Lib.hid (B6.out.grown hg7.gb (by omega) (fun q hq => (World.ownsRow.lt O6.out q hq).1))
          obtain ⟨a7, c7, rfl⟩ := row_slice hown7
          clear hown7 hg7
          go_wp2_with fail
          go_ret
          exact ⟨_, rfl, by rw [← HWN.out]; exact (ownS_c O7.out).kept (fun k hk => ⟨Or.inr hk, rfl⟩), B7.out⟩
end Go.Proofs.Ytfphkbbgbfnhaaa
