/- The walks of Common, and of the reference's. -/
import Derived.Test.YtplbcncbljcfmaaDoorPathO
import Derived.Test.YtplbcncbljcfmaaDoorPathR
namespace Go.Proofs.YtplbcncbljcfmaaDoor
open Go.RowKit Go.Lib

theorem par_parent (p : Txt) : Par p (parentN p) := by
  obtain ⟨q, hq⟩ := par_ex p
  rcases hq with ⟨h0, rfl⟩ | ⟨x, hx, rfl⟩
  · exact Or.inl ⟨h0, parentN_none h0⟩
  · have h := last_of q x hx
    refine Or.inr ⟨x, hx, ?_⟩
    unfold parentN
    rw [h]; simp
/-- The deepest folder of some texts. -/
def commonN (l : List Txt) : Txt := if l = [] then [] else parentN (lcpF (l.getD 0 []) l)
theorem commonN_deep {l : List Txt} (hl : l ≠ []) (hne : ∀ p ∈ l, p ≠ []) : Deepest l (commonN l) := by
  cases l with
  | nil => exact absurd rfl hl
  | cons x r =>
    unfold commonN
    rw [if_neg hl]
    exact deepest hne (par_parent _)
theorem lcpF_take {x : Txt} {l : List Txt} {k : Nat} (hk : k < l.length) : lcpF x (l.take (k + 1)) = (lcpF x (l.take k)).take (alikeN (lcpF x (l.take k)) (l.getD k [])) := by
  rw [take_snoc hk, lcpF_snoc]
theorem lcpF_len (x : Txt) (l : List Txt) : (lcpF x l).length ≤ x.length := (lcpF_pre x l).1.length_le
set_option maxRecDepth 100000 in
set_option maxHeartbeats 2000000 in
theorem common_any (S : Nat → Prop) (v : Value) (l : List Txt) (w : World) (h : StrsC S w v l) (hl : l.length ≤ 4194304) (hx : ∀ j, j < l.length → (l.getD j []).length ≤ 4194300) :
    Calls Tryd.prog 42 #[v] w fun e w' => e = .returned (.string ⟨(commonN l).toArray⟩) ∧ ∃ n, w' = w.drewN n := by
  obtain ⟨a, c, rfl⟩ := h.shape
  by_cases h0 : l = []
  · subst h0
    clear h hl hx
    go_enter Tryd.func42, Tryd.ntmps42
    go_wp2_with fail
    go_ret
    exact ⟨rfl, 0, rfl⟩
  · have hpos : 0 < l.length := List.length_pos_iff.2 h0
    obtain ⟨b, rfl, hb1, hb2, hb3⟩ := h.at hpos
    have HC := Lib.hid hb3
    have c0 := hb3 0 hpos
    have g0 : ((l.length : Int) == 0) = false := by rw [beq_eq_false_iff_ne]; omega
    have HCN : Hid (commonN l = parentN (lcpF (l.getD 0 []) l)) := Lib.hid (by unfold commonN; rw [if_neg h0])
    have HX := Lib.hid hx
    have HX0 := hx 0 hpos
    have HT : Hid (∀ k, k < l.length → lcpF (l.getD 0 []) (l.take (k + 1)) = (lcpF (l.getD 0 []) (l.take k)).take (alikeN (lcpF (l.getD 0 []) (l.take k)) (l.getD k []))) := Lib.hid (fun k hk => lcpF_take hk)
    have HLN := Lib.hid (fun k => lcpF_len (l.getD 0 []) (l.take k))
    have HZ : Hid (lcpF (l.getD 0 []) (l.take 0) = l.getD 0 []) := Lib.hid rfl
    rw [add_none] at c0
    generalize l.getD 0 [] = x0 at *
    clear h hb1 hb2 hb3 hx h0
    go_enter Tryd.func42, Tryd.ntmps42
    go_wp2_with fail
    go_loopw [3, 14] (fun s i wr => ∃ k n : Nat, k ≤ l.length ∧ i = .int .i64 k ∧ s = .string ⟨(lcpF x0 (l.take k)).toArray⟩ ∧ wr = w.drewN n) (fun _ i _ => l.length - (intOf i).toNat)
    case atStart => exact ⟨0, 0, Nat.zero_le _, rfl, by rw [HZ.out], rfl⟩
    case round =>
      obtain ⟨k, n, hk, rfl, rfl, rfl⟩ := hrel
      clear c0 g0
      by_cases hlt : k < l.length
      · have hc := HC.out k hlt
        have HTK := Lib.hid (HT.out k hlt)
        have hbl : (lcpF x0 (l.take k)).length ≤ 4194300 := Nat.le_trans (HLN.out k) HX0
        generalize lcpF x0 (l.take k) = bg at *
        generalize l.getD k [] = p at *
        have HAK := Lib.hid (fun W => alike_any bg p W (by omega))
        have hle := (alikeN_le bg p).1
        have hsl := fun W => str_take W bg (alikeN bg p) hle
        generalize alikeN bg p = m at *
        go_wp2_with fail
        refine (HAK.out _).mono ?_
        rintro e w2 ⟨rfl, n2, rfl⟩
        go_wp2_with fail
        go_roundw
        case rel => exact ⟨k + 1, n + n2, by omega, by go_num, by rw [HTK.out], rfl⟩
        case measure => simp [intOf]; omega
      · have hkl : k = l.length := by omega
        have HQ : Hid (lcpF x0 (l.take k) = lcpF x0 l) := Lib.hid (by rw [hkl, List.take_length])
        have hbl : (lcpF x0 (l.take k)).length ≤ 4194300 := Nat.le_trans (HLN.out k) HX0
        clear hkl
        rw [HQ.out] at hbl ⊢
        generalize lcpF x0 l = bg at *
        go_wp2_with fail
        refine (parent_any bg _ (by omega)).mono ?_
        rintro e w2 ⟨rfl, rfl⟩
        go_wp2_with fail
        go_ret
        exact ⟨by rw [HCN.out]; rfl, n, rfl⟩
def slenT : Value → Nat
  | .string s => s.size
  | _ => 0
/-- What is held of the folder that is tried. -/
def BestP (c b : Txt) : Prop := b = c ∨ (b ≠ [] ∧ underB b c = true)
theorem all_take {l : List Txt} {f : Txt → Bool} {k : Nat} (hk : k < l.length) : (l.take (k + 1)).all f = ((l.take k).all f && f (l.getD k [])) := by
  rw [take_snoc hk, List.all_append]; simp
theorem best_go {l : List Txt} {c b : Txt} (h : Deepest l c) (hi : BestP c b) (hb : b ≠ []) : (l.all (fun p => underB p b) = true → b = c) ∧ (l.all (fun p => underB p b) = false → BestP c (parentN b)) := by
  have hi2 : b = c ∨ underB b c = true := by
    rcases hi with hi | hi
    · exact Or.inl hi
    · exact Or.inr hi.2
  exact ⟨fun ha => best_stop h hb hi2 ha, fun ha => best_on h hi2 ha (par_parent b)⟩
theorem best_first {l : List Txt} {c : Txt} (h : Deepest l c) (hl : 0 < l.length) : BestP c (parentN (l.getD 0 [])) := by
  have hm : l.getD 0 [] ∈ l := by rw [getD_at hl]; exact List.getElem_mem hl
  exact par_step (h.all _ hm) (par_parent _)
set_option maxRecDepth 100000 in
set_option maxHeartbeats 2000000 in
theorem rcommon_any (S : Nat → Prop) (v : Value) (l : List Txt) (w : World) (hS : ∀ k, S k → k < w.heap.size) (h : StrsC S w v l) (hl : l.length ≤ 4194304) (hx : ∀ j, j < l.length → (l.getD j []).length ≤ 4194300) (hne : ∀ p ∈ l, p ≠ []) :
    Calls Tryd.prog 43 #[v] w fun e w' => e = .returned (.string ⟨(commonN l).toArray⟩) ∧ Below w.heap.size w w' := by
  obtain ⟨a, c, rfl⟩ := h.shape
  by_cases h0 : l = []
  · subst h0
    have HR := Lib.hid (Below.refl w.heap.size w)
    clear h hl hx hne hS
    go_enter Tryd.func43, Tryd.ntmps43
    go_wp2_with fail
    go_ret
    exact ⟨rfl, HR.out⟩
  · have hpos : 0 < l.length := List.length_pos_iff.2 h0
    obtain ⟨b, rfl, hb1, hb2, hb3⟩ := h.at hpos
    have c0 := hb3 0 hpos
    rw [add_none] at c0
    have hblk := hS _ hb1
    have HC := Lib.hid hb3
    have g0 : ((l.length : Int) == 0) = false := by rw [beq_eq_false_iff_ne]; omega
    have HD := commonN_deep h0 hne
    have HX := Lib.hid hx
    have HP := Lib.hid (fun W => rparent_any (l.getD 0 []) W (hx 0 hpos))
    have HB1 := Lib.hid (best_first HD hpos)
    have hp1 : (parentN (l.getD 0 [])).length ≤ 4194300 := Nat.le_trans (par_parent _).le (hx 0 hpos)
    have HGO := Lib.hid (fun b => best_go (b := b) HD)
    generalize commonN l = cm at *
    generalize l.getD 0 [] = x0 at *
    clear h hb1 hb2 hb3 hx h0 hS hne HD
    go_enter Tryd.func43, Tryd.ntmps43
    go_wp2_with fail
    refine (HP.out _).mono ?_
    rintro e w1 ⟨rfl, hb⟩
    have B1 := Lib.hid hb
    clear hb c0 g0
    generalize parentN x0 = p0 at *
    go_wp2_with fail
    go_loopw [3] (fun s wr => ∃ f : Txt, s = .string ⟨f.toArray⟩ ∧ f.length ≤ 4194300 ∧ Hid (BestP cm f) ∧ Hid (Below w.heap.size w wr)) (fun s _ => slenT s)
    case atStart => exact ⟨p0, rfl, hp1, HB1, B1⟩
    case round =>
      obtain ⟨f, rfl, hf, hi, B⟩ := hrel
      obtain ⟨wo, hwo⟩ : ∃ wo : World, wo = wr := ⟨_, rfl⟩
      by_cases hf0 : f = []
      · subst hf0
        have HF : Hid (cm = []) := Lib.hid (by
          rcases hi.out with h | h
          · exact h.symm
          · exact absurd rfl h.1)
        clear hwo
        go_wp2_with fail
        go_ret
        exact ⟨by rw [HF.out]; rfl, B.out⟩
      · have g1 : f.isEmpty = false := by cases f; exact absurd rfl hf0; rfl
        have HG := Lib.hid (HGO.out f hi.out hf0)
        have HLS := Lib.hid ((par_parent f).less hf0)
        have HPF := Lib.hid (fun W => rparent_any f W hf)
        clear hwo hf0
        go_wp2_with fail
        go_loopw [4, 5] (fun q i wr => ∃ (k : Nat) (u : Bool), k ≤ l.length ∧ i = .int .i64 k ∧ q = .bool u ∧ Hid (u = (l.take k).all (fun p => underB p f)) ∧ Hid (Below w.heap.size w wr)) (fun _ i _ => l.length - (intOf i).toNat)
        case atStart => exact ⟨0, true, Nat.zero_le _, rfl, rfl, Lib.hid rfl, B⟩
        case round =>
          obtain ⟨k, u, hk, rfl, rfl, hu, B2⟩ := hrel
          by_cases hlt : k < l.length
          · have hc := (B2.out.cell (p := b.add k) (by rw [add_block]; exact hblk)).trans (HC.out k hlt)
            have HS := Lib.hid (all_take (f := fun p => underB p f) hlt)
            have HU := Lib.hid (fun W => runder_any (l.getD k []) f W (by have := HX.out k hlt; omega))
            generalize l.getD k [] = p at *
            cases u
            · go_wp2_with fail
              go_roundw
              case rel => exact ⟨k + 1, false, by omega, by go_num, rfl, Lib.hid (by rw [HS.out, ← hu.out]; rfl), B2⟩
              case measure => simp [intOf]; omega
            · go_wp2_with fail
              refine (HU.out _).mono ?_
              rintro e w2 ⟨rfl, rfl⟩
              go_wp2_with fail
              go_roundw
              case rel => exact ⟨k + 1, underB p f, by omega, by go_num, rfl, Lib.hid (by rw [HS.out, ← hu.out]; rfl), B2⟩
              case measure => simp [intOf]; omega
          · have hkl : k = l.length := by omega
            have HQ : Hid (u = l.all (fun p => underB p f)) := Lib.hid (by rw [hu.out, hkl, List.take_length])
            clear hkl
            cases u
            · have HN := Lib.hid (HG.out.2 HQ.out.symm)
              have hpl : (parentN f).length ≤ 4194300 := Nat.le_trans (par_parent f).le hf
              generalize parentN f = f2 at *
              go_wp2_with fail
              refine (HPF.out _).mono ?_
              rintro e w2 ⟨rfl, hb⟩
              have B3 := Lib.hid (B2.out.trans (hb.mono B2.out.size))
              clear hb
              go_wp2_with fail
              refine ⟨⟨f2, rfl, hpl, HN, B3⟩, ?_⟩
              have := HLS.out
              simp [slenT, ByteArray.size]; omega
            · have HN := Lib.hid (HG.out.1 HQ.out.symm)
              go_wp2_with fail
              go_ret
              exact ⟨by rw [HN.out]; rfl, B2.out⟩
end Go.Proofs.YtplbcncbljcfmaaDoor
