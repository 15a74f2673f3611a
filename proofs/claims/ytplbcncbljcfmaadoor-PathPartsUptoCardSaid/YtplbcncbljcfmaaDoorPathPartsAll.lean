/- The walk of the law PathParts. -/
import Derived.Test.YtplbcncbljcfmaaDoorPathK
namespace Go.Proofs.YtplbcncbljcfmaaDoor
open Go.RowKit Go.Lib

theorem nameB_short {x : List UInt8} {l : List (List UInt8)} (h : x ∈ l) (hl : sumL l ≤ 4194304) : x.length ≤ 140737488355328 := by
  have := sumL_mem l x h; omega
theorem sumL_split (s : List UInt8) : sumL (splitL s) = s.length + 1 := by
  induction s with
  | nil => rfl
  | cons c t ih =>
    obtain ⟨y, r, e⟩ := splitL_shape t
    by_cases h : c = 47
    · subst h; rw [splitL_stroke, sumL_cons, ih]; simp; omega
    · rw [splitL_cons h, e]
      rw [e, sumL_cons] at ih
      simp only [List.headD_cons, List.tail_cons, sumL_cons, List.length_cons]
      omega
theorem sumL_names (s : List UInt8) : sumL (namesL s) ≤ s.length + 1 := by
  unfold namesL; split
  · simp [sumL]
  · rw [sumL_split]; exact Nat.le_refl _
set_option maxRecDepth 100000 in
set_option maxHeartbeats 8000000 in
theorem parts_law (S : Nat → Prop) (p : List UInt8) (v : Value) (l : List (List UInt8)) (w : World) (hp : p.length ≤ 4194300) (hl : sumL l ≤ 4194304) (hS : ∀ k, S k → k < w.heap.size) (h : StrsC S w v l) (hE : PEnv w) :
    Calls Tryd.prog 11 #[.string ⟨p.toArray⟩, v] w (TrueP w) := by
  have HE := Lib.hid hE
  have HS := Lib.hid hS
  have H := Lib.hid h
  have hll := sumL_len l
  have hjl := sumL_join l
  have HJ := Lib.hid (fun (S : Nat → Prop) v W h1 h2 => join_any S v l W h1 h2 hl)
  have HNM : Hid (∀ k, k < l.length → ∀ W, Calls Tryd.prog 29 #[.string ⟨(l.getD k []).toArray⟩] W fun e w' => e = .returned (.bool (nameB (l.getD k []))) ∧ Below W.heap.size W w') := Lib.hid (fun k hk W => by
    have hm : l.getD k [] ∈ l := by rw [show l.getD k [] = l[k] by simp [List.getD, List.getElem?_eq_getElem hk]]; exact List.getElem_mem hk
    exact name_any _ W (nameB_short hm hl))
  have HCQ := Lib.hid (fun W => check_any (joinL l) W (by omega))
  have HCP := Lib.hid (fun W => check_any p W (by omega))
  have HSP := Lib.hid (fun W => split_any p W (by omega))
  have hsn := sumL_names p
  have HJP : Hid (∀ (S : Nat → Prop) v W, (∀ k, S k → k < W.heap.size) → StrsC S W v (namesL p) → Calls Tryd.prog 31 #[v] W fun e w' => e = .returned (.string ⟨p.toArray⟩) ∧ Below W.heap.size W w') := Lib.hid (fun S v W h1 h2 => by
    have h := join_any S v (namesL p) W h1 h2 (by omega)
    rwa [join_names] at h)
  have HNP : Hid (checkN p = 0 → ∀ k, k < (namesL p).length → ∀ W, Calls Tryd.prog 29 #[.string ⟨((namesL p).getD k []).toArray⟩] W fun e w' => e = .returned (.bool true) ∧ Below W.heap.size W w') := Lib.hid (fun h0 k hk W => by
    have hm : (namesL p).getD k [] ∈ namesL p := by rw [show (namesL p).getD k [] = (namesL p)[k] by simp [List.getD, List.getElem?_eq_getElem hk]]; exact List.getElem_mem hk
    have h := name_any _ W (nameB_short hm (by omega))
    rwa [List.all_eq_true.1 (checkN_ok h0).2.1 _ hm] at h)
  have HUP : Hid (checkN p = 0 → ∀ W, Calls Tryd.prog 35 #[.string ⟨p.toArray⟩, .string ⟨#[]⟩] W fun e w' => e = .returned (.bool true) ∧ W = w') := Lib.hid (fun h0 W => by
    have h := under_any p [] W
    rwa [show underB p [] = true by unfold underB; rw [if_pos rfl]; exact decide_eq_true (checkN_ok h0).1] at h)
  have HPP := Lib.hid (fun W => parent_any p W (by omega))
  have HUF := Lib.hid (fun f W => under_any p f W)
  have HCF := Lib.hid (fun (h : (parentN p).length ≤ 4194304) W => check_any (parentN p) W h)
  have hpl : (parentN p).length ≤ 4194304 := by unfold parentN; rw [List.length_take]; omega
  have HCA := Lib.hid (path_cases (p := p))
  have HLN : Hid (checkN p = 0 → 1 ≤ (namesL p).length) := Lib.hid (fun h0 => by
    have hj := join_names p
    have h1 := (checkN_ok h0).1
    have : namesL p ≠ [] := by intro e; rw [e] at hj; exact h1 hj.symm
    exact List.length_pos_iff.2 this)
  obtain ⟨a, c, rfl⟩ := h.shape
  clear h hS hE
  go_enter Tryd.func11, Tryd.ntmps11
  go_wp2_with fail
  refine (awake5_any _ HE.out).mono ?_
  rintro e w1 ⟨rfl, hb1⟩
  have B1 := Lib.hid hb1
  have hs1 := hb1.size
  clear hb1
  go_wp2_with fail
  refine (HJ.out S _ w1 (fun k hk => by have := HS.out k hk; omega) (H.out.kept (fun k hk => ⟨hk, B1.out.block k (HS.out k hk)⟩))).mono ?_
  rintro e w2 ⟨rfl, hb2⟩
  have B2 := Lib.hid (B1.out.trans (hb2.mono hs1))
  have hs2 := hb2.size
  clear hb2
  obtain ⟨q, hq⟩ : ∃ q, q = joinL l := ⟨_, rfl⟩
  rw [← hq] at HCQ hjl ⊢
  have HQ := Lib.hid hq
  clear hq
  go_upto_region 5 with fail
  all_goals
    go_wp2_with fail
    go_loopw [6, 32] (fun good i wr => ∃ (k : Nat) (b : Bool), k ≤ l.length ∧ i = .int .i64 k ∧ good = .bool b ∧ Hid (b = true → (0 < l.length ∧ l.length ≤ 16 ∧ q.length ≤ 255) ∧ ∀ j, j < k → nameB (l.getD j []) = true) ∧ Below w.heap.size w wr) (fun _ i _ => l.length - (intOf i).toNat)
    case atStart => exact ⟨0, _, Nat.zero_le _, rfl, rfl, Lib.hid (fun hb => ⟨by first | (cases hb; done) | (have := of_decide_eq_true hb; omega), fun j hj => absurd hj (by omega)⟩), B2.out⟩
    case round =>
      obtain ⟨k, b, hk, rfl, rfl, hb, hbw⟩ := hrel
      have B := Lib.hid hbw
      have hsz := hbw.size
      clear hbw
      by_cases hlt : k < l.length
      · obtain ⟨ba, rfl, h1, h2, h3⟩ := (H.out.kept (S' := S) (w' := wr) (fun j hj => ⟨hj, B.out.block j (HS.out j hj)⟩)).at (by omega)
        have hc := h3 k hlt
        have HN := Lib.hid (HNM.out k hlt)
        have HST : Hid (∀ y, nameB (l.getD k []) = y → b = true → y = true → (0 < l.length ∧ l.length ≤ 16 ∧ q.length ≤ 255) ∧ ∀ j, j < k + 1 → nameB (l.getD j []) = true) := Lib.hid (fun y e1 e2 e3 => ⟨(hb.out e2).1, fun j hj => by
          by_cases e : j = k
          · rw [e, e1, e3]
          · exact (hb.out e2).2 j (by omega)⟩)
        obtain ⟨y, hy⟩ : ∃ y, nameB (l.getD k []) = y := ⟨_, rfl⟩
        rw [hy] at HN
        have HY := Lib.hid (HST.out y hy)
        clear h1 h2 h3 hy HST hb
        generalize (⟨(l.getD k []).toArray⟩ : ByteArray) = x at *
        cases b
        · go_wp2_with fail
          go_roundw
          case rel => exact ⟨k + 1, false, by omega, by go_num, rfl, Lib.hid (fun e => by cases e), B.out⟩
          case measure => simp [intOf]; omega
        · go_wp2_with fail
          refine (HN.out _).mono ?_
          rintro e w5 ⟨rfl, hb5⟩
          have B5 := Lib.hid (B.out.trans (hb5.mono hsz))
          clear hb5
          go_wp2_with fail
          go_roundw
          case rel => exact ⟨k + 1, y, by omega, by go_num, rfl, Lib.hid (fun e => HY.out (by simp) e), B5.out⟩
          case measure => simp [intOf]; omega
      · have hkl : k = l.length := by omega
        have HB : Hid (b = true → checkN q = 0) := Lib.hid (fun e => by
          obtain ⟨⟨e1, e2, e3⟩, e4⟩ := hb.out e
          have hne : l ≠ [] := List.length_pos_iff.1 e1
          rw [HQ.out] at e3 ⊢
          refine checkN_join hne (List.all_eq_true.2 (fun x hx => ?_)) e2 e3
          obtain ⟨j, hj, rfl⟩ := List.getElem_of_mem hx
          have := e4 j (by omega)
          rwa [show l.getD j [] = l[j] by simp [List.getD, List.getElem?_eq_getElem hj]] at this)
        clear hkl hb HNM
        cases b
        · go_wp2_with fail
          refine (HCP.out _ (HE.out.on B.out)).mono ?_
          rintro e w5 ⟨rfl, hb5⟩
          have B5 := Lib.hid (B.out.trans (hb5.mono hsz))
          clear hb5 HCP HCQ
          by_cases h0 : checkN p = 0
          · have HCA2 := Lib.hid (HCA.out h0)
            have HNP2 := Lib.hid (HNP.out h0)
            have HUP2 := Lib.hid (HUP.out h0)
            have hln := HLN.out h0
            have hpl2 := namesL_len p
            rw [h0]
            clear h0 HCA HNP HUP HLN
            generalize namesL p = L at *
            go_wp2_with fail
            refine (HSP.out _ (HE.out.on B5.out)).mono ?_
            rintro e w6 ⟨v6, rfl, hv6, hb6⟩
            have V6 := Lib.hid hv6
            have hs6 := hb6.size
            have B6 := Lib.hid (B5.out.trans (hb6.mono B5.out.size))
            obtain ⟨a6, c6, rfl⟩ := hv6.shape
            clear hv6 hb6
            go_wp2_with fail
            refine (HJP.out _ _ _ (fun k hk => hk.2) V6.out).mono ?_
            rintro e w7 ⟨rfl, hb7⟩
            have V7 : Hid (StrsC (fun k => w5.heap.size ≤ k ∧ k < w6.heap.size) w7 (.slice a6 L.length c6) L) := Lib.hid (V6.out.kept (fun k hk => ⟨hk, hb7.block k hk.2⟩))
            have B7 := Lib.hid (B6.out.trans (hb7.mono B6.out.size))
            have hs7 := hb7.size
            clear hb7
            go_wp2_with fail
            refine (HUP2.out _).mono ?_
            rintro e w8 ⟨rfl, rfl⟩
            go_wp2_with fail
            go_loopw [69] (fun i wr => ∃ k : Nat, k ≤ L.length ∧ i = .int .i64 k ∧ Below w7.heap.size w7 wr) (fun i _ => L.length - (intOf i).toNat)
            case atStart => exact ⟨0, Nat.zero_le _, rfl, Below.refl _ _⟩
            case round =>
              obtain ⟨m, hm, rfl, hbm⟩ := hrel
              have BM := Lib.hid hbm
              have hsm := hbm.size
              have VM := Lib.hid (V7.out.kept (S' := fun k => w5.heap.size ≤ k ∧ k < w6.heap.size) (w' := wr) (fun k hk => ⟨hk, hbm.block k (by omega)⟩))
              clear hbm
              obtain ⟨ba6, rfl, h1, h2, h3⟩ := VM.out.at (by omega)
              by_cases hml : m < L.length
              · have hc6 := h3 m hml
                have HNM2 := Lib.hid (HNP2.out m hml)
                generalize (⟨(L.getD m []).toArray⟩ : ByteArray) = x6 at *
                clear h1 h2 h3
                go_wp2_with fail
                refine (HNM2.out _).mono ?_
                rintro e w9 ⟨rfl, hb9⟩
                have B9 := Lib.hid (BM.out.trans (hb9.mono hsm))
                clear hb9
                go_wp2_with fail
                go_roundw
                case rel => exact ⟨m + 1, by omega, by go_num, B9.out⟩
                case measure => simp [intOf]; omega
              · have hmm : m = L.length := by omega
                subst hmm
                have BF := Lib.hid (B7.out.trans (BM.out.mono B7.out.size))
                have hc6 := h3 (L.length - 1) (by omega)
                clear h1 h2 h3 hml
                rcases HCA2.out with ⟨e1, e2⟩ | ⟨e1, e2, e3, e4⟩
                · have g1 : ((L.length : Int) == 1) = true := by rw [e1]; rfl
                  rw [e2] at HPP
                  clear e1 e2 hc6
                  go_wp2_with fail
                  refine (HPP.out _).mono ?_
                  rintro e w9 ⟨rfl, rfl⟩
                  go_wp2_with fail
                  go_ret
                  exact ⟨rfl, BF.out⟩
                · have g1 : ((L.length : Int) == 1) = false := by rw [beq_eq_false_iff_ne]; omega
                  have HU3 := Lib.hid (HUF.out (parentN p))
                  rw [e3] at HU3
                  have HC3 := Lib.hid (HCF.out hpl)
                  rw [e2] at HC3
                  have hw1 : IntKind.i64.wrap ((L.length : Int) - 1) = ((L.length - 1 : Nat) : Int) := by rw [IntWalk.i64_in _ (by omega)]; omega
                  have HE4 := Lib.hid e4
                  obtain ⟨F, hF⟩ : ∃ F, F = parentN p := ⟨_, rfl⟩
                  rw [← hF] at HU3 HC3 HE4 HPP hpl
                  have hzl : F.length + (L.getD (L.length - 1) []).length + 1 ≤ 4194304 := by
                    have := congrArg List.length HE4.out
                    simp at this ⊢; omega
                  generalize L.getD (L.length - 1) [] = z at *
                  have hcat : (⟨F.toArray⟩ : ByteArray) ++ ⟨#[47]⟩ ++ ⟨z.toArray⟩ = ⟨p.toArray⟩ := by
                    rw [← HE4.out]; apply ByteArray.ext; simp
                  have HCAT := Lib.hid hcat
                  clear e1 e2 e3 e4 hF HCF HUF hcat
                  go_wp2_with fail
                  refine (HPP.out _).mono ?_
                  rintro e w9 ⟨rfl, rfl⟩
                  go_wp2_with fail
                  refine (HC3.out _ (HE.out.on BF.out)).mono ?_
                  rintro e w9 ⟨rfl, hb9⟩
                  have BG := Lib.hid (BF.out.trans (hb9.mono BF.out.size))
                  have hc7 := (hb9.cell (p := ba6.add (L.length - 1)) (World.block_lt_of_cell? _ _ hc6)).trans hc6
                  clear hb9 hc6
                  go_wp2_with fail
                  refine (HU3.out _).mono ?_
                  rintro e w10 ⟨rfl, rfl⟩
                  have hcat := HCAT.out
                  go_wp2_with fail
                  go_ret
                  exact ⟨rfl, BG.out⟩
          · have g0 : (checkN p != 0) = true := by rw [bne_iff_ne]; exact h0
            generalize checkN p = r0 at *
            go_wp2_with fail
            go_ret
            exact ⟨rfl, B5.out⟩
        · rw [HB.out rfl] at HCQ
          go_wp2_with fail
          refine (HCQ.out _ (HE.out.on B.out)).mono ?_
          rintro e w4 ⟨rfl, hb4⟩
          have B4 := Lib.hid (B.out.trans (hb4.mono hsz))
          have hsz4 := hb4.size
          clear hb4 B
          have B := B4
          go_wp2_with fail
          refine (HCP.out _ (HE.out.on B.out)).mono ?_
          rintro e w5 ⟨rfl, hb5⟩
          have B5 := Lib.hid (B.out.trans (hb5.mono (by omega)))
          clear hb5 HCP HCQ
          by_cases h0 : checkN p = 0
          · have HCA2 := Lib.hid (HCA.out h0)
            have HNP2 := Lib.hid (HNP.out h0)
            have HUP2 := Lib.hid (HUP.out h0)
            have hln := HLN.out h0
            have hpl2 := namesL_len p
            rw [h0]
            clear h0 HCA HNP HUP HLN
            generalize namesL p = L at *
            go_wp2_with fail
            refine (HSP.out _ (HE.out.on B5.out)).mono ?_
            rintro e w6 ⟨v6, rfl, hv6, hb6⟩
            have V6 := Lib.hid hv6
            have hs6 := hb6.size
            have B6 := Lib.hid (B5.out.trans (hb6.mono B5.out.size))
            obtain ⟨a6, c6, rfl⟩ := hv6.shape
            clear hv6 hb6
            go_wp2_with fail
            refine (HJP.out _ _ _ (fun k hk => hk.2) V6.out).mono ?_
            rintro e w7 ⟨rfl, hb7⟩
            have V7 : Hid (StrsC (fun k => w5.heap.size ≤ k ∧ k < w6.heap.size) w7 (.slice a6 L.length c6) L) := Lib.hid (V6.out.kept (fun k hk => ⟨hk, hb7.block k hk.2⟩))
            have B7 := Lib.hid (B6.out.trans (hb7.mono B6.out.size))
            have hs7 := hb7.size
            clear hb7
            go_wp2_with fail
            refine (HUP2.out _).mono ?_
            rintro e w8 ⟨rfl, rfl⟩
            go_wp2_with fail
            go_loopw [69] (fun i wr => ∃ k : Nat, k ≤ L.length ∧ i = .int .i64 k ∧ Below w7.heap.size w7 wr) (fun i _ => L.length - (intOf i).toNat)
            case atStart => exact ⟨0, Nat.zero_le _, rfl, Below.refl _ _⟩
            case round =>
              obtain ⟨m, hm, rfl, hbm⟩ := hrel
              have BM := Lib.hid hbm
              have hsm := hbm.size
              have VM := Lib.hid (V7.out.kept (S' := fun k => w5.heap.size ≤ k ∧ k < w6.heap.size) (w' := wr) (fun k hk => ⟨hk, hbm.block k (by omega)⟩))
              clear hbm
              obtain ⟨ba6, rfl, h1, h2, h3⟩ := VM.out.at (by omega)
              by_cases hml : m < L.length
              · have hc6 := h3 m hml
                have HNM2 := Lib.hid (HNP2.out m hml)
                generalize (⟨(L.getD m []).toArray⟩ : ByteArray) = x6 at *
                clear h1 h2 h3
                go_wp2_with fail
                refine (HNM2.out _).mono ?_
                rintro e w9 ⟨rfl, hb9⟩
                have B9 := Lib.hid (BM.out.trans (hb9.mono hsm))
                clear hb9
                go_wp2_with fail
                go_roundw
                case rel => exact ⟨m + 1, by omega, by go_num, B9.out⟩
                case measure => simp [intOf]; omega
              · have hmm : m = L.length := by omega
                subst hmm
                have BF := Lib.hid (B7.out.trans (BM.out.mono B7.out.size))
                have hc6 := h3 (L.length - 1) (by omega)
                clear h1 h2 h3 hml
                rcases HCA2.out with ⟨e1, e2⟩ | ⟨e1, e2, e3, e4⟩
                · have g1 : ((L.length : Int) == 1) = true := by rw [e1]; rfl
                  rw [e2] at HPP
                  clear e1 e2 hc6
                  go_wp2_with fail
                  refine (HPP.out _).mono ?_
                  rintro e w9 ⟨rfl, rfl⟩
                  go_wp2_with fail
                  go_ret
                  exact ⟨rfl, BF.out⟩
                · have g1 : ((L.length : Int) == 1) = false := by rw [beq_eq_false_iff_ne]; omega
                  have HU3 := Lib.hid (HUF.out (parentN p))
                  rw [e3] at HU3
                  have HC3 := Lib.hid (HCF.out hpl)
                  rw [e2] at HC3
                  have hw1 : IntKind.i64.wrap ((L.length : Int) - 1) = ((L.length - 1 : Nat) : Int) := by rw [IntWalk.i64_in _ (by omega)]; omega
                  have HE4 := Lib.hid e4
                  obtain ⟨F, hF⟩ : ∃ F, F = parentN p := ⟨_, rfl⟩
                  rw [← hF] at HU3 HC3 HE4 HPP hpl
                  have hzl : F.length + (L.getD (L.length - 1) []).length + 1 ≤ 4194304 := by
                    have := congrArg List.length HE4.out
                    simp at this ⊢; omega
                  generalize L.getD (L.length - 1) [] = z at *
                  have hcat : (⟨F.toArray⟩ : ByteArray) ++ ⟨#[47]⟩ ++ ⟨z.toArray⟩ = ⟨p.toArray⟩ := by
                    rw [← HE4.out]; apply ByteArray.ext; simp
                  have HCAT := Lib.hid hcat
                  clear e1 e2 e3 e4 hF HCF HUF hcat
                  go_wp2_with fail
                  refine (HPP.out _).mono ?_
                  rintro e w9 ⟨rfl, rfl⟩
                  go_wp2_with fail
                  refine (HC3.out _ (HE.out.on BF.out)).mono ?_
                  rintro e w9 ⟨rfl, hb9⟩
                  have BG := Lib.hid (BF.out.trans (hb9.mono BF.out.size))
                  have hc7 := (hb9.cell (p := ba6.add (L.length - 1)) (World.block_lt_of_cell? _ _ hc6)).trans hc6
                  clear hb9 hc6
                  go_wp2_with fail
                  refine (HU3.out _).mono ?_
                  rintro e w10 ⟨rfl, rfl⟩
                  have hcat := HCAT.out
                  go_wp2_with fail
                  go_ret
                  exact ⟨rfl, BG.out⟩
          · have g0 : (checkN p != 0) = true := by rw [bne_iff_ne]; exact h0
            generalize checkN p = r0 at *
            go_wp2_with fail
            go_ret
            exact ⟨rfl, B5.out⟩
end Go.Proofs.YtplbcncbljcfmaaDoor
