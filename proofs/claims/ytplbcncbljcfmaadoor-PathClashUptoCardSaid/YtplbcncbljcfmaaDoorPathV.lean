/- The walks of Clash, and of the reference's. -/
import Derived.Test.YtplbcncbljcfmaaDoorPathU
namespace Go.Proofs.YtplbcncbljcfmaaDoor
open Go.RowKit Go.Lib

theorem sv_bytes (l : List Txt) : sv l = (l.map fun x => (⟨x.toArray⟩ : ByteArray)).map Value.string := by unfold sv; rw [List.map_map]; rfl
theorem clone_any (B : Nat) (v : Value) (l : List Txt) (w : World) (h : OwnS w B v l) (hl : l.length ≤ 4194304) :
    Calls Tryd.prog 71 #[v] w fun e w' => ∃ v', e = .returned v' ∧ OwnS w' w.heap.size v' l ∧ Below w.heap.size w w' := by
  rcases h.2 with ⟨rfl, hn⟩ | ⟨g, cap, cur, rfl, hB, hg, hnc, hcm, _⟩
  · obtain rfl := List.length_eq_zero_iff.1 hn
    refine (Tryd.slices_Clone_string_nil 0 0 w).mono fun e w' ⟨he, hw⟩ => ?_
    subst hw
    exact ⟨_, he, ownS_nil _ _, Below.refl _ _⟩
  · refine (Tryd.slices_Clone_string g 0 l.length cap (l.map fun x => (⟨x.toArray⟩ : ByteArray)) w (by simp) (by omega) (fun j hj => ?_)).mono fun e w' ⟨v', he, ho, _, hb⟩ => ⟨v', he, ?_, hb⟩
    · rw [List.length_map] at hj
      have := World.ownsRow.cells h rfl j (.string ⟨(l.getD j []).toArray⟩) (by unfold sv; simp [List.getD, List.getElem?_eq_getElem hj])
      rw [Addr.add_mid] at this
      rw [this]
      simp [List.getD, List.getElem?_eq_getElem hj]
    · unfold OwnS
      rw [sv_bytes]
      rwa [List.take_of_length_le (by simp)] at ho
def ApartTo (s : List Txt) (k : Nat) : Prop := ∀ j, 0 < j → j < k → relB (s.getD j []) (s.getD (j - 1) []) = false
theorem ApartTo.next {s : List Txt} {k : Nat} (h : ApartTo s (k + 1)) (hr : relB (s.getD (k + 1) []) (s.getD k []) = false) : ApartTo s (k + 1 + 1) := fun j h0 hj => by
  by_cases e : j = k + 1
  · subst e; exact hr
  · exact h j h0 (by omega)
theorem ApartTo.found {s : List Txt} {k : Nat} (h : ApartTo s (k + 1)) (hk : k + 1 < s.length) (hr : relB (s.getD (k + 1) []) (s.getD k []) = true) : ClashOf s (s.getD (k + 1) []) (s.getD k []) :=
  Or.inl ⟨k + 1, by omega, hk, hr, h, rfl, rfl⟩
def ClashP (l : List Txt) (B : Nat) (w : World) (e : Ending) (w' : World) : Prop := ∃ a b, e = .returned (.tuple #[.string ⟨a.toArray⟩, .string ⟨b.toArray⟩]) ∧ ClashOf (sortP l) a b ∧ Below B w w'
set_option maxRecDepth 100000 in
set_option maxHeartbeats 4000000 in
theorem clash_walk (B : Nat) (v : Value) (l : List Txt) (w : World) (h : OwnS w B v l) (hl : l.length ≤ 4194304) (hx : ∀ x ∈ l, x.length ≤ 4194304) :
    Calls Tryd.prog 40 #[v] w (ClashP l w.heap.size w) := by
  have HC := Lib.hid (clone_any B v l w h hl)
  have HS := Lib.hid (fun v' w' (h : OwnS w' w.heap.size v' l) hB => sort_any w.heap.size v' l w' h hB hl hx)
  have HSL : Hid ((sortP l).length ≤ 4194304) := Lib.hid (by rw [(sortP_perm l).length_eq]; exact hl)
  have HF : Hid (∀ w1 a b, ClashOf (sortP l) a b → Below w.heap.size w w1 → ClashP l w.heap.size w (.returned (.tuple #[.string ⟨a.toArray⟩, .string ⟨b.toArray⟩])) w1) := Lib.hid (fun w1 a b hc hb => ⟨a, b, rfl, hc, hb⟩)
  generalize ClashP l w.heap.size w = Q at *
  generalize sortP l = s at *
  clear h hl hx
  go_enter Tryd.func40, Tryd.ntmps40
  go_wp2_with fail
  refine HC.out.mono ?_
  rintro e w1 ⟨v1, rfl, ho1, hb1⟩
  have B1 := Lib.hid hb1
  have HS1 := Lib.hid (HS.out v1 w1 ho1 hb1.size)
  clear ho1 hb1 HS
  go_wp2_with fail
  refine HS1.out.mono ?_
  rintro e w2 ⟨rfl, ho2, hb2⟩
  have B2 := Lib.hid (B1.out.trans hb2)
  have O2 := Lib.hid (ownS_c ho2)
  obtain ⟨a, c, rfl⟩ := ownS_slice ho2
  have hsl := HSL.out
  clear ho2 hb2 HS1 B1
  go_wp2_with fail
  go_loopw [14] (fun i wr => ∃ k : Nat, k ≤ s.length ∧ i = .int .i64 k ∧ Hid (ApartTo s k) ∧ wr = w2) (fun i _ => s.length - (intOf i).toNat)
  case atStart => exact ⟨0, Nat.zero_le _, rfl, Lib.hid (fun j h0 hj => by omega), rfl⟩
  case round =>
    obtain ⟨k, hk, rfl, ha, rfl⟩ := hrel
    by_cases hlt : k < s.length
    · obtain ⟨b, rfl, _, _, hb3⟩ := O2.out.at (by omega)
      have c1 := hb3 k hlt
      by_cases hk0 : k = 0
      · subst hk0
        have HA1 : Hid (ApartTo s 1) := Lib.hid (fun j h0 hj => by omega)
        generalize s.getD 0 [] = x at *
        rw [add_none] at c1
        clear hb3
        go_wp2_with fail
        go_roundw
        case rel => exact ⟨1, by omega, rfl, HA1, trivial⟩
        case measure => simp [intOf]; omega
      · obtain ⟨m, hm⟩ : ∃ m, k = m + 1 := ⟨k - 1, by omega⟩
        have c2 := hb3 m (by omega)
        have hml : m < s.length := by omega
        have HN : Hid (relB (s.getD k []) (s.getD m []) = false → ApartTo s (k + 1)) := Lib.hid (by rw [hm]; exact ApartTo.next (by rw [← hm]; exact ha.out))
        have HG : Hid (relB (s.getD k []) (s.getD m []) = true → ClashOf s (s.getD k []) (s.getD m [])) := Lib.hid (by rw [hm]; exact ApartTo.found (by rw [← hm]; exact ha.out) (by rw [← hm]; exact hlt))
        have g0 : ((k : Int) == 0) = false := by rw [beq_eq_false_iff_ne]; omega
        have hkm : (k : Int) - 1 = (m : Int) := by omega
        clear hm
        generalize s.getD k [] = x at *
        generalize s.getD m [] = y at *
        have HR : Hid (∀ q u, (x == y) = q → underB x y = u → relB x y = (q || u)) := Lib.hid (fun q u h1 h2 => by unfold relB; rw [h1, h2])
        have HU := Lib.hid (under_any x y)
        obtain ⟨q, hq⟩ : ∃ q, (x == y) = q := ⟨_, rfl⟩
        obtain ⟨u, hu⟩ : ∃ u, underB x y = u := ⟨_, rfl⟩
        have HR2 := Lib.hid (HR.out q u hq hu)
        rw [hu] at HU
        clear hb3 hk0 HR hu
        cases q
        · cases u
          · go_wp2_with fail
            refine (HU.out _).mono ?_
            rintro e w3 ⟨rfl, rfl⟩
            go_wp2_with fail
            go_roundw
            case rel => exact ⟨k + 1, by omega, by go_num, Lib.hid (HN.out HR2.out), trivial⟩
            case measure => simp [intOf]; omega
          · go_wp2_with fail
            refine (HU.out _).mono ?_
            rintro e w3 ⟨rfl, rfl⟩
            go_wp2_with fail
            exact HF.out _ _ _ (HG.out HR2.out) B2.out
        · go_wp2_with fail
          exact HF.out _ _ _ (HG.out (by rw [HR2.out]; rfl)) B2.out
    · have hkl : k = s.length := by omega
      have HA2 : Hid (ClashOf s [] []) := Lib.hid (Or.inr ⟨fun j h0 hj => ha.out j h0 (by omega), rfl, rfl⟩)
      clear hkl
      go_wp2_with fail
      exact HF.out _ _ _ HA2.out B2.out
end Go.Proofs.YtplbcncbljcfmaaDoor
