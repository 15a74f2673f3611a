/- The walk of score.chosen. -/
import Derived.Test.YtaajfekolokaoaaScE
import Derived.Test.YtaajfekolokaoaaScF
namespace Go.Proofs.Ytaajfekolokaoaa
open Go.RowKit Go.Lib Go.Maps

/-- A map of the call's own in which some texts stand. -/
structure SetS (w : World) (B n : Nat) (D : DataW Unit) (K : List (List UInt8)) : Prop where
  own : w.ownsMap Try.prog 9 unitElem B n D
  tidy : Tidy D
  has : ∀ x, Maps.has D (.string x) = decide (x ∈ K)
theorem SetS.made (w : World) : SetS (w.alloc (.map #[] 0)) w.heap.size 0 (.map []) [] :=
  ⟨World.ownsMap_made _ _ _ _, tidy_empty, fun x => by simp [Maps.has]⟩
theorem SetS.kept {w w' : World} {B n : Nat} {D : DataW Unit} {K : List (List UInt8)} (h : SetS w B n D K) (hk : w'.heap[B]? = w.heap[B]?) : SetS w' B n D K := by
  refine ⟨?_, h.tidy, h.has⟩
  obtain ⟨es, clock, hb, F, hs, hD⟩ := h.own
  exact ⟨es, clock, hk.trans hb, F, hs, hD⟩
theorem SetS.put {w w' : World} {B n : Nat} {D : DataW Unit} {K : List (List UInt8)} (h : SetS w B n D K) {x : List UInt8} {d : DataW Unit} (ho : w'.ownsMap Try.prog 9 unitElem B (n + 1) (D.put (.string x) d)) :
    SetS w' B (n + 1) (D.put (.string x) d) (K ++ [x]) := by
  have hk : WideAt.IsKeyLit (.string x) := trivial
  have hm := h.tidy.isMap
  refine ⟨ho, h.tidy.put hk _, fun y => ?_⟩
  by_cases e : y = x
  · subst e; rw [has_put_same hm hk]; simp
  · rw [has_put_other (lit_ne e), h.has y]
    apply decide_eq_decide.2
    simp [e]
theorem zeroUnit (w : World) : (zeroValue 92).run Try.prog w = .ok (.agg #[]) w := by kernel_rfl
theorem str_key (x : List UInt8) (h : x.length ≤ 4194304) : keyOf Try.prog 9 (.string ⟨x.toArray⟩) = some (.string x) := by
  have := Go.WideMaps.keyOf_string_mk Try.underlying9 (s := ⟨x.toArray⟩) (by unfold maxLen; simp [ByteArray.size]; omega)
  simpa using this
/-- Of moves in their order those of which none ahead has an end. -/
def chosenF : List Mv → List (List UInt8) → List (List UInt8) → List Mv
  | [], _, _ => []
  | m :: r, G, C => if m.fr ∈ G ∨ m.ed ∈ C then chosenF r G C else m :: chosenF r (G ++ [m.fr]) (C ++ [m.ed])
def MvsC (S : Nat → Prop) (w : World) (v : Value) (ms : List Mv) : Prop := CellsC S w v ms.length 3 (m3 ms)
theorem own_weak {w : World} {B B' E size n : Nat} {v : Value} {xs : List Value} (h : w.ownsRow B E size v n xs) (hB : B' ≤ B) : w.ownsRow B' E size v n xs := by
  refine ⟨h.1, ?_⟩
  rcases h.2 with h2 | ⟨g, cap, cur, e1, e2, e3, e4⟩
  · exact Or.inl h2
  · exact Or.inr ⟨g, cap, cur, e1, by omega, e3, e4⟩
theorem m3_at : ∀ (P : List Mv) (k : Nat) (m : Mv), P[k]? = some m → (m3 P)[k * 3]? = some (.string ⟨m.fr.toArray⟩) ∧ (m3 P)[k * 3 + 1]? = some (.string ⟨m.ed.toArray⟩) ∧ (m3 P)[k * 3 + 2]? = some (.float .f64 m.sc)
  | [], k, m, h => by cases h
  | p :: P, 0, m, h => by
    injection h with h; subst h
    have e : m3 (p :: P) = mvL p ++ m3 P := by unfold m3; simp
    rw [e]; exact ⟨rfl, rfl, rfl⟩
  | p :: P, k + 1, m, h => by
    have e : m3 (p :: P) = mvL p ++ m3 P := by unfold m3; simp
    obtain ⟨h1, h2, h3⟩ := m3_at P k m h
    have hl : (mvL p).length = 3 := rfl
    rw [e, show (k + 1) * 3 = k * 3 + 3 by omega]
    refine ⟨?_, ?_, ?_⟩ <;> rw [List.getElem?_append_right (by omega), hl]
    · rw [show k * 3 + 3 - 3 = k * 3 by omega]; exact h1
    · rw [show k * 3 + 3 + 1 - 3 = k * 3 + 1 by omega]; exact h2
    · rw [show k * 3 + 3 + 2 - 3 = k * 3 + 2 by omega]; exact h3
set_option maxRecDepth 100000 in
set_option maxHeartbeats 4000000 in
theorem chosen_any (S : Nat → Prop) (v : Value) (ms : List Mv) (w : World) (hS : ∀ k, S k → k < w.heap.size) (h : MvsC S w v ms) (hl : ms.length ≤ 4096) (hok : ∀ m ∈ ms, MvOk m) :
    Calls Try.prog 29 #[v] w fun e w' => ∃ o, e = .returned o ∧ OwnV w' w.heap.size o (chosenF ms [] []) ∧ Below w.heap.size w w' := by
  obtain ⟨i0, hi, hz0, hz1, hz2⟩ := info_parts Try.info43v
  obtain ⟨ga, gc, rfl⟩ := CellsC.shape h
  have HM : Hid (∀ W, Below w.heap.size w W → MvsC S W (.slice ga ms.length gc) ms) := Lib.hid (fun W hW => CellsC.kept h (fun k hk => ⟨hk, hW.block k (hS k hk)⟩))
  have HOK := Lib.hid hok
  obtain ⟨PP, hPP⟩ : ∃ PP, chosenF ms [] [] = PP := ⟨_, rfl⟩
  have HP0 : Hid ([] ++ chosenF (ms.drop 0) [] [] = PP) := Lib.hid hPP
  rw [hPP]
  clear h hS hok hPP
  obtain ⟨n, hn⟩ : ∃ n, ms.length = n := ⟨_, rfl⟩
  have HN := Lib.hid hn
  rw [hn] at hl HM ⊢
  clear hn
  obtain ⟨w1, hw1⟩ : ∃ w1, w1 = (((w.alloc (.map #[] 0)).alloc (.map #[] 0)).alloc (.cells #[.map (some w.heap.size), .map (some (w.heap.size + 1))] 91)) := ⟨_, rfl⟩
  have hs1 : w1.heap.size = w.heap.size + 1 + 1 + 1 := by rw [hw1]; simp
  have BX : Hid (w1.heap[w.heap.size + 1 + 1]? = some (.cells #[.map (some w.heap.size), .map (some (w.heap.size + 1))] 91 (0, 0))) := Lib.hid (by
    rw [hw1]
    have h := new_five ((w.alloc (.map #[] 0)).alloc (.map #[] 0)) #[.map (some w.heap.size), .map (some (w.heap.size + 1))] 91
    simpa using h)
  have SG : Hid (SetS w1 w.heap.size 0 (.map []) []) := Lib.hid (by
    refine (SetS.made w).kept ?_
    rw [hw1]
    exact (Below.heap_alloc _ _ _ (by simp; omega)).trans (Below.heap_alloc _ _ _ (by simp)))
  have SC : Hid (SetS w1 (w.heap.size + 1) 0 (.map []) []) := Lib.hid (by
    have h := SetS.made (w.alloc (.map #[] 0))
    rw [World.size_alloc] at h
    refine h.kept ?_
    rw [hw1]
    exact Below.heap_alloc _ _ _ (by simp))
  have W1 : Hid (Below w.heap.size w w1) := Lib.hid (by rw [hw1]; exact (((Below.refl w.heap.size w).alloc (Nat.le_refl _) _).alloc (by simp) _).alloc (by simp; omega) _)
  have hmm := @run_makeMap Try.prog
  have hsf := fun (W : World) (a : Addr) (b : Nat) => (run_store Try.prog W a (.float .f64 b) .plain rfl)
  go_enter Try.func29, Try.ntmps29
  go_wp2_with fail
  rw [← hw1]
  clear hw1
  go_loopw [4, 16] (fun o i wr => ∃ (k : Nat) (P : List Mv) (G C : List (List UInt8)) (n1 n2 : Nat) (D1 D2 : DataW Unit), k ≤ n ∧ i = .int .i64 (k : Int) ∧ n1 ≤ k ∧ n2 ≤ k ∧ P.length ≤ k ∧ Hid (OwnV wr (w.heap.size + 3) o P) ∧ Hid (P ++ chosenF (ms.drop k) G C = PP) ∧ Hid (Below w.heap.size w wr) ∧ Hid (SetS wr w.heap.size n1 D1 G) ∧ Hid (SetS wr (w.heap.size + 1) n2 D2 C) ∧ Hid (wr.heap[w.heap.size + 1 + 1]? = some (.cells #[.map (some w.heap.size), .map (some (w.heap.size + 1))] 91 (0, 0))) ∧ w.heap.size + 3 ≤ wr.heap.size) (fun _ i _ => n - (intOf i).toNat)
  case atStart => exact ⟨0, [], [], [], 0, 0, .map [], .map [], Nat.zero_le _, rfl, Nat.le_refl _, Nat.le_refl _, Nat.le_refl _, Lib.hid (ownV_nil _ _), HP0, W1, SG, SC, BX, by omega⟩
  case round =>
    obtain ⟨k, P, G, C, n1, n2, D1, D2, hk, rfl, hn1, hn2, hPl, hO, hE, hW, hG, hC, hB, hsz⟩ := hrel
    obtain ⟨oa, oc, rfl⟩ := ownV_slice hO.out
    by_cases hlt : k < n
    · obtain ⟨m, em, ed⟩ := getD_some (l := ms) (k := k) (by rw [HN.out]; exact hlt)
      have hma := HM.out wr hW.out
      unfold MvsC at hma
      rw [HN.out] at hma
      obtain ⟨gb, go, rfl, sgb, hle1, hle2, hcells⟩ := CellsC.at hma (by omega)
      obtain ⟨e0, e1, e2⟩ := m3_at ms k m em
      have d0 : wr.cell? ⟨gb, go + k * 3, none⟩ = _ := hcells _ _ e0
      have d1 := hcells _ _ e1
      have d2 := hcells _ _ e2
      rw [← Nat.add_assoc] at d1 d2
      have MO := Lib.hid (HOK.out m (List.mem_of_getElem? em))
      have hkf := str_key m.fr MO.out.1
      have hke := str_key m.ed MO.out.2.1
      obtain ⟨bx0, bx1⟩ := box2 hB.out rfl
      have hb3 : w.heap.size + 1 + 1 < wr.heap.size := by omega
      have hb5 : w.heap.size + 1 < wr.heap.size := by omega
      have hb6 : w.heap.size < wr.heap.size := by omega
      have hb7 : w.heap.size + 1 + 1 < wr.heap.size + 1 := by omega
      have hb8 : w.heap.size + 1 + 1 < wr.heap.size + 1 + 1 := by omega
      have HED := Lib.hid ed
      have HGA : Hid (∀ W : World, W.heap[w.heap.size]? = wr.heap[w.heap.size]? → W.ownsMap Try.prog 9 unitElem w.heap.size n1 D1) := Lib.hid (fun W h => (hG.out.kept h).own)
      have HCA : Hid (∀ W : World, W.heap[w.heap.size + 1]? = wr.heap[w.heap.size + 1]? → W.ownsMap Try.prog 9 unitElem (w.heap.size + 1) n2 D2) := Lib.hid (fun W h => (hC.out.kept h).own)
      have HH1 := Lib.hid (hG.out.has m.fr)
      have HH2 := Lib.hid (hC.out.has m.ed)
      have HE1 : Hid (P ++ (if m.fr ∈ G ∨ m.ed ∈ C then chosenF (ms.drop (k + 1)) G C else m :: chosenF (ms.drop (k + 1)) (G ++ [m.fr]) (C ++ [m.ed])) = PP) := Lib.hid (by have h := hE.out; rw [HED.out] at h; exact h)
      clear hma hcells e0 e1 e2 ed em
      obtain ⟨w3, hw3⟩ : ∃ w3, w3 = (((wr.alloc (.cells #[.string ⟨m.fr.toArray⟩, .string ⟨m.ed.toArray⟩, .float .f64 m.sc] 43)).alloc (.cells #[] 92)).alloc (.cells #[] 92)) := ⟨_, rfl⟩
      have K3 : Hid (∀ q, q < wr.heap.size → w3.heap[q]? = wr.heap[q]?) := Lib.hid (fun q hq => by
        rw [hw3]
        exact (Below.heap_alloc _ _ _ (by simp; omega)).trans ((Below.heap_alloc _ _ _ (by simp; omega)).trans (Below.heap_alloc _ _ _ hq)))
      have Z3 : Hid (w3.heap.size = wr.heap.size + 1 + 1 + 1) := Lib.hid (by rw [hw3]; simp)
      have M3 : Hid (w3.heap[wr.heap.size]? = some (.cells #[.string ⟨m.fr.toArray⟩, .string ⟨m.ed.toArray⟩, .float .f64 m.sc] 43 (0, 0))) := Lib.hid (by
        rw [hw3]
        exact (Below.heap_alloc _ _ _ (by simp; omega)).trans ((Below.heap_alloc _ _ _ (by simp)).trans (new_five wr _ _)))
      have W3 : Hid (Below w.heap.size w w3) := Lib.hid (by rw [hw3]; exact ((hW.out.alloc hW.out.size _).alloc (by simp; omega) _).alloc (by simp; omega) _)
      have O3 : Hid (OwnV w3 (w.heap.size + 3) (.slice oa P.length oc) P) := Lib.hid (own_below hO.out (fun q _ hq => K3.out q hq))
      have G3 : Hid (SetS w3 w.heap.size n1 D1 G) := Lib.hid (hG.out.kept (K3.out _ (by omega)))
      have C3 : Hid (SetS w3 (w.heap.size + 1) n2 D2 C) := Lib.hid (hC.out.kept (K3.out _ (by omega)))
      have B3 : Hid (w3.heap[w.heap.size + 1 + 1]? = some (.cells #[.map (some w.heap.size), .map (some (w.heap.size + 1))] 91 (0, 0))) := Lib.hid ((K3.out _ (by omega)).trans hB.out)
      by_cases hin : m.fr ∈ G ∨ m.ed ∈ C
      · have HE2 : Hid (P ++ chosenF (ms.drop (k + 1)) G C = PP) := Lib.hid (by have h := HE1.out; rwa [if_pos hin] at h)
        have hq : decide (m.fr ∈ G) = true ∨ (decide (m.fr ∈ G) = false ∧ decide (m.ed ∈ C) = true) := by
          by_cases h1 : m.fr ∈ G
          · exact Or.inl (by simpa using h1)
          · exact Or.inr ⟨by simpa using h1, by simpa [h1] using hin⟩
        generalize decide (m.fr ∈ G) = q1 at *
        generalize decide (m.ed ∈ C) = q2 at *
        clear hin HE1 hE hO hG hC hW hB
        rcases hq with rfl | ⟨rfl, rfl⟩
        all_goals
          go_wp2_with (first | (at_lookup; refine wpList_lookup_own_unit _ rfl _ _ 90 rfl 9 92 keyLaw Try.underlying90 (zeroUnit _) w.heap.size n1 D1 rfl (HGA.out _ (Below.heap_alloc _ _ _ (by omega))) _ _ rfl hkf ?_; rw [HH1.out]) | (at_lookup; refine wpList_lookup_own_unit _ rfl _ _ 90 rfl 9 92 keyLaw Try.underlying90 (zeroUnit _) (w.heap.size + 1) n2 D2 rfl (HCA.out _ ((Below.heap_alloc _ _ _ (by simp; omega)).trans (Below.heap_alloc _ _ _ (by omega)))) _ _ rfl hke ?_; rw [HH2.out]))
          rw [← hw3]
          go_roundw
          case rel => exact ⟨k + 1, P, G, C, n1, n2, D1, D2, by omega, by go_num, by omega, by omega, by omega, O3, HE2, W3, G3, C3, B3, by rw [Z3.out]; omega⟩
          case measure => simp [intOf]; omega
      · have HE2 : Hid (P ++ [m] ++ chosenF (ms.drop (k + 1)) (G ++ [m.fr]) (C ++ [m.ed]) = PP) := Lib.hid (by have h := HE1.out; rw [if_neg hin] at h; rw [List.append_assoc]; exact h)
        have hq1 : decide (m.fr ∈ G) = false := by simp; exact fun h => hin (Or.inl h)
        have hq2 : decide (m.ed ∈ C) = false := by simp; exact fun h => hin (Or.inr h)
        rw [hq1] at HH1
        rw [hq2] at HH2
        clear hin HE1 hE hO hG hC hW hB hq1 hq2
        go_wp2_with (first | (at_lookup; refine wpList_lookup_own_unit _ rfl _ _ 90 rfl 9 92 keyLaw Try.underlying90 (zeroUnit _) w.heap.size n1 D1 rfl (HGA.out _ (Below.heap_alloc _ _ _ (by omega))) _ _ rfl hkf ?_; rw [HH1.out]) | (at_lookup; refine wpList_lookup_own_unit _ rfl _ _ 90 rfl 9 92 keyLaw Try.underlying90 (zeroUnit _) (w.heap.size + 1) n2 D2 rfl (HCA.out _ ((Below.heap_alloc _ _ _ (by simp; omega)).trans (Below.heap_alloc _ _ _ (by omega)))) _ _ rfl hke ?_; rw [HH2.out]))
        rw [← hw3]
        have z3 := Z3.out
        obtain ⟨w4, hr4, ho4, ht4⟩ := World.ownsMap.store (G3.out.kept (w' := w3.drew) rfl).own keyLaw Try.underlying90 (by unfold maxLen; omega) hkf (unitElem_mk (H := Unit))
        have K4 : Hid (∀ q, q < w3.heap.size → q ≠ w.heap.size → w4.heap[q]? = w3.heap[q]?) := Lib.hid (fun q hq hne => ht4.grown.block q hq (fun e => hne (by injection e)))
        have Z4 : Hid (w3.heap.size ≤ w4.heap.size) := Lib.hid ht4.grown.size
        have C4 : Hid (SetS w4 (w.heap.size + 1) n2 D2 C) := Lib.hid (C3.out.kept (K4.out _ (by omega) (by omega)))
        have G4 := Lib.hid (G3.out.put ho4)
        have W4 : Hid (Below w.heap.size w w4) := Lib.hid (W3.out.drew.grown ht4.grown W3.out.size (fun j hj => by injection hj with hj; omega))
        obtain ⟨w5, hr5, ho5, ht5⟩ := World.ownsMap.store C4.out.own keyLaw Try.underlying90 (by unfold maxLen; omega) hke (unitElem_mk (H := Unit))
        have K5 : Hid (∀ q, q < w4.heap.size → q ≠ w.heap.size + 1 → w5.heap[q]? = w4.heap[q]?) := Lib.hid (fun q hq hne => ht5.grown.block q hq (fun e => hne (by injection e)))
        have Z5 : Hid (w4.heap.size ≤ w5.heap.size) := Lib.hid ht5.grown.size
        have C5 := Lib.hid (C4.out.put ho5)
        have G5 := Lib.hid (G4.out.kept (K5.out _ (by have := Z4.out; omega) (by omega)))
        have W5 : Hid (Below w.heap.size w w5) := Lib.hid (W4.out.grown ht5.grown W4.out.size (fun j hj => by injection hj with hj; omega))
        have hz4 := Z4.out
        have hz5 := Z5.out
        have B4 := Lib.hid ((K4.out (w.heap.size + 1 + 1) (by omega) (by omega)).trans B3.out)
        have M4 := Lib.hid ((K4.out wr.heap.size (by omega) (by omega)).trans M3.out)
        have B5 := Lib.hid ((K5.out (w.heap.size + 1 + 1) (by omega) (by omega)).trans B4.out)
        have M5 := Lib.hid ((K5.out wr.heap.size (by omega) (by omega)).trans M4.out)
        have O5 : Hid (OwnV w5 (w.heap.size + 3) (.slice oa P.length oc) P) := Lib.hid (own_below O3.out (fun q h1 h2 => (K5.out q (by omega) (by omega)).trans (K4.out q h2 (by omega))))
        obtain ⟨p0, p1⟩ := box2 B3.out rfl
        obtain ⟨p2, p3, p4⟩ := box3 M3.out rfl
        obtain ⟨q0, q1⟩ := box2 B4.out rfl
        obtain ⟨q2, q3, q4⟩ := box3 M4.out rfl
        clear ho4 ho5 ht4 ht5 hkf hke d0 d1 d2 bx0 bx1 hw3 z3 hz4 hz5
        go_region
        obtain ⟨r2, r3, r4⟩ := box3 M5.out rfl
        clear p0 p1 p2 p3 p4 q0 q1 q2 q3 q4 hr4 hr5
        have hs5 := W5.out.size
        have hz5 : w.heap.size + 3 ≤ w5.heap.size := by have h1 := Z3.out; have h2 := Z4.out; have h3 := Z5.out; omega
        have hmm2 : wr.heap.size < w5.heap.size := by have h1 := Z3.out; have h2 := Z4.out; have h3 := Z5.out; omega
        go_wp2_with (at_builtin; refine wpList_own_src _ rfl _ _ 34 34 rfl (w.heap.size + 3) 43 i0 (.agg #[.string ByteArray.empty, .string ByteArray.empty, .float .f64 0]) 3 40 Try.underlying34 hi hz0 hz1 hz2 rfl (by decide) _ _ _ rfl (World.ownsRow.alloc O5.out _) _ 1 [.string ⟨m.fr.toArray⟩, .string ⟨m.ed.toArray⟩, .float .f64 m.sc] rfl (srcV_one _ _ _ _) (by unfold maxLen; omega) (by omega) (by simp; omega) ?_)
        intro v6 w6 hown6 hg6
        have hlow : ∀ q, (Value.slice oa P.length oc).ownBlock = some q → w.heap.size + 3 ≤ q := fun q hq => (World.ownsRow.lt O5.out q hq).1
        have O6 : Hid (OwnV w6 (w.heap.size + 3) v6 (P ++ [m])) := Lib.hid (ownV_push hown6)
        have W6 : Hid (Below w.heap.size w w6) := Lib.hid ((W5.out.alloc W5.out.size _).grown hg6.gb (by simp; omega) (fun j hj => by have := hlow j hj; omega))
        have K6 : Hid (∀ q, q < w.heap.size + 3 → w6.heap[q]? = w5.heap[q]?) := Lib.hid (fun q hq => (hg6.gb.block q (by simp; omega) (fun e => by have := hlow q e.symm; omega)).trans (Below.heap_alloc _ _ _ (by omega)))
        have Z6 : Hid (w5.heap.size ≤ w6.heap.size) := Lib.hid (by have := hg6.size; simp at this; omega)
        have G6 := Lib.hid (G5.out.kept (K6.out _ (by omega)))
        have C6 := Lib.hid (C5.out.kept (K6.out _ (by omega)))
        have B6 := Lib.hid ((K6.out (w.heap.size + 1 + 1) (by omega)).trans B5.out)
        clear hown6 hg6 r2 r3 r4 hlow
        go_wp2_with fail
        go_roundw
        case rel => exact ⟨k + 1, P ++ [m], G ++ [m.fr], C ++ [m.ed], n1 + 1, n2 + 1, _, _, by omega, by go_num, by omega, by omega, by simp; omega, O6, HE2, W6, G6, C6, B6, by have := Z6.out; omega⟩
        case measure => simp [intOf]; omega
    · have HE6 : Hid (P = PP) := Lib.hid (by
        have h := hE.out
        rw [List.drop_of_length_le (by rw [HN.out]; omega)] at h
        unfold chosenF at h
        rw [List.append_nil] at h
        exact h)
      have hk3 : k = n := by omega
      have OF : Hid (OwnV wr w.heap.size (.slice oa P.length oc) PP) := Lib.hid (by rw [← HE6.out]; exact own_weak hO.out (by omega))
      clear hE
      go_wp2_with fail
      go_ret
      exact ⟨_, rfl, OF.out, hW.out⟩
end Go.Proofs.Ytaajfekolokaoaa
