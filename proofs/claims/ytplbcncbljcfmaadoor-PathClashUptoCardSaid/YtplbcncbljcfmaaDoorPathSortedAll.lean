/- The walk of the law PathSorted. -/
import Derived.Test.YtplbcncbljcfmaaDoorPathListsAll
namespace Go.Proofs.YtplbcncbljcfmaaDoor
open Go.RowKit Go.Lib

def Drew (w w' : World) : Prop := ∃ n, w' = w.drewN n
theorem Drew.cell {w w' : World} (h : Drew w w') (p : Addr) : w'.cell? p = w.cell? p := by obtain ⟨n, rfl⟩ := h; rfl
theorem Drew.below {w w' : World} (h : Drew w w') (B : Nat) : Below B w w' := by obtain ⟨n, rfl⟩ := h; exact drewn _ _ _
theorem Drew.trans {w w1 w2 : World} (h : Drew w w1) (k : Drew w1 w2) : Drew w w2 := by
  obtain ⟨n, rfl⟩ := h
  obtain ⟨m, rfl⟩ := k
  exact ⟨n + m, by rw [World.drewN_drewN]⟩
theorem Drew.refl (w : World) : Drew w w := ⟨0, rfl⟩
set_option maxRecDepth 100000 in
set_option maxHeartbeats 8000000 in
theorem sorted_law (S : Nat → Prop) (v : Value) (l : List Txt) (f : Txt) (w : World) (hS : ∀ k, S k → k < w.heap.size) (h : StrsC S w v l) (hl : l.length ≤ 4194304) (hx : ∀ x ∈ l, x.length ≤ 4194304) (hf : f.length ≤ 4194304) (hE : PEnv w) :
    Calls Tryd.prog 13 #[v, .string ⟨f.toArray⟩] w (TrueP w) := by
  unfold TrueP
  have HE := Lib.hid hE
  have HV := Lib.hid (fun W (hb : Below w.heap.size w W) => valid_any S v l W (fun k hk => Nat.lt_of_lt_of_le (hS k hk) hb.size) (h.kept (fun k hk => ⟨hk, hb.block k (hS k hk)⟩)) hl hx (hE.on hb))
  have hvs := valid_short (l := l)
  have hvl := Nat.le_trans (valid_len l) hl
  have HRS := Lib.hid (fun S v W hS (h : StrsC S W v (validL l)) => rsorted_any S v (validL l) W hS h hvl (fun j hj => by rw [getD_at hj]; have := (hvs _ (List.getElem_mem hj)).1; omega))
  have HSX : Hid (∀ j, j < (sortP (validL l)).length → ((sortP (validL l)).getD j []).length ≤ 255) := Lib.hid (fun j hj => by rw [getD_at hj]; exact (hvs _ ((sortP_perm _).mem_iff.1 (List.getElem_mem hj))).1)
  have HSS := Lib.hid (sortP_sorted (validL l))
  have HCK := Lib.hid (fun W h => check_any f W hf h)
  have HFL := Lib.hid hf
  generalize sortP (validL l) = s at *
  generalize checkN f = ck at *
  clear hS h hl hx hE hvs hvl hf
  go_enter Tryd.func13, Tryd.ntmps13
  go_wp2_with fail
  refine (awake5_any _ HE.out).mono ?_
  rintro e w1 ⟨rfl, hb1⟩
  have B1 := Lib.hid hb1
  clear hb1
  go_wp2_with fail
  refine (HV.out _ B1.out).mono ?_
  rintro e w2 ⟨v2, rfl, hv2, hb2⟩
  have B2 := Lib.hid (B1.out.trans (hb2.mono B1.out.size))
  have C2 := Lib.hid (ownS_c hv2)
  clear hv2 hb2 HV
  go_wp2_with fail
  refine (HRS.out _ _ _ (fun k hk => hk.2) C2.out).mono ?_
  rintro e w3 ⟨v3, rfl, hv3, hb3⟩
  have B3 := Lib.hid (B2.out.trans (hb3.mono B2.out.size))
  have C3 := Lib.hid (ownS_c hv3)
  obtain ⟨a, c, rfl⟩ := ownS_slice hv3
  clear hv3 hb3 HRS
  go_wp2_with fail
  refine (HCK.out _ (HE.out.on B3.out)).mono ?_
  rintro e w4 ⟨rfl, hb4⟩
  have B4 := Lib.hid (B3.out.trans (hb4.mono B3.out.size))
  have C4 := Lib.hid (C3.out.kept (S' := fun k => w2.heap.size ≤ k ∧ k < w3.heap.size) (w' := w4) (fun k hk => ⟨hk, hb4.block k hk.2⟩))
  clear hb4 HCK C3
  by_cases hck : ck = 0
  · subst hck
    by_cases h100 : 100 < s.length
    · go_wp2_with fail
      go_ret
      exact ⟨rfl, B4.out⟩
    · have hsl : s.length ≤ 100 := by omega
      clear h100
      go_wp2_with fail
      go_loopw [6, 25] (fun t i wr => ∃ (k : Nat) (st : Int), k ≤ s.length ∧ i = .int .i64 k ∧ t = .int .i64 st ∧ Hid (sideBy s f k st) ∧ Hid (Drew w4 wr)) (fun _ i _ => s.length - (intOf i).toNat)
      case atStart => exact ⟨0, 0, Nat.zero_le _, rfl, rfl, Lib.hid (Or.inl rfl), Lib.hid (Drew.refl _)⟩
      case round =>
        obtain ⟨k, st, hk, rfl, rfl, hsd, hd⟩ := hrel
        by_cases hlt : k < s.length
        · obtain ⟨b, rfl, _, _, hb3⟩ := C4.out.at (by omega)
          have c1 := (hd.out.cell _).trans (hb3 k hlt)
          have HX := Lib.hid (HSX.out k hlt)
          have HP : Hid (∀ m, m < k → cmpP (s.getD m []) (s.getD k []) ≤ 0 ∧ (s.getD m []).length ≤ 255 ∧ wr.cell? (b.add m) = some (.string ⟨(s.getD m []).toArray⟩)) := Lib.hid (fun m hm => ⟨sorted_at HSS.out (by omega) hlt, HSX.out m (by omega), (hd.out.cell _).trans (hb3 m (by omega))⟩)
          have HU := Lib.hid (under_any (s.getD k []) f)
          have HCF := Lib.hid (fun W => compare_any f (s.getD k []) W (by have := HFL.out; omega) (by have := HX.out; omega))
          have HIN := Lib.hid (fun hu => side_in HSS.out hlt hsd.out hu)
          have HON : Hid (underB (s.getD k []) f = true → sideBy s f (k + 1) 1) := Lib.hid (fun hu => side_on_in hu)
          have HO : Hid (st = 1 → underB (s.getD k []) f = false → sideBy s f (k + 1) 2) := Lib.hid (fun e hu => side_one HSS.out hlt (by rw [← e]; exact hsd.out) hu)
          have HT : Hid (st = 2 → sideBy s f (k + 1) 2) := Lib.hid (fun e => side_two (by rw [← e]; exact hsd.out))
          have HPA : Hid (underB (s.getD k []) f = false → cmpP f (s.getD k []) < 0 → sideBy s f (k + 1) 2) := Lib.hid (fun hu hc => side_past hu hc)
          have HST : Hid (st = 0 ∨ st = 1 ∨ st = 2) := Lib.hid (by
            rcases hsd.out with h | ⟨h, _⟩ | ⟨h, _⟩
            · exact Or.inl h
            · exact Or.inr (Or.inl h)
            · exact Or.inr (Or.inr h))
          have HNG : Hid (underB (s.getD k []) f = true → cmpP f (s.getD k []) < 0) := Lib.hid (fun hu => under_neg hu)
          have HZ : Hid (sideBy s f (k + 1) 0) := Lib.hid (Or.inl rfl)
          generalize s.getD k [] = p at *
          generalize underB p f = u at *
          clear hb3
          by_cases hk0 : k = 0
          all_goals
            first
              | (have gk : decide (0 < k) = false := decide_eq_false (by omega)
                 clear hk0
                 go_wp2_with fail
                 have HD := hd
                 generalize wr = wz at *)
              | (obtain ⟨m, hm⟩ : ∃ m, k = m + 1 := ⟨k - 1, by omega⟩
                 have hkm : (k : Int) - 1 = (m : Int) := by omega
                 have hms : m < s.length := by omega
                 have gk : decide (0 < k) = true := decide_eq_true (by omega)
                 obtain ⟨h1, h2, c2⟩ := HP.out m (by omega)
                 have HC1 := Lib.hid (fun W => compare_any (s.getD m []) p W (by omega) (by have := HX.out; omega))
                 generalize s.getD m [] = y at *
                 generalize cmpP y p = cm at *
                 have gm : decide ((0 : Int) < cm) = false := decide_eq_false (by omega)
                 clear hm h2 hk0
                 go_wp2_with fail
                 refine (HC1.out _).mono ?_
                 rintro e wz ⟨rfl, hdz⟩
                 have HD : Hid (Drew w4 wz) := Lib.hid (hd.out.trans hdz)
                 clear hdz h1 c2 hkm hms
                 go_wp2_with fail
                 clear gm)
          all_goals
            refine (HU.out _).mono ?_
            rintro e w5 ⟨rfl, rfl⟩
            clear c1 gk hd HP
            cases u
            · clear HON HNG HIN
              rcases HST.out with rfl | rfl | rfl
              · generalize cmpP f p = cf at *
                by_cases hc : cf < 0
                · have HR := Lib.hid (HPA.out rfl hc)
                  have gc : decide (cf < 0) = true := decide_eq_true hc
                  clear hc
                  go_wp2_with fail
                  refine (HCF.out _).mono ?_
                  rintro e w6 ⟨rfl, hdz⟩
                  have HD6 : Hid (Drew w4 w6) := Lib.hid (HD.out.trans hdz)
                  clear hdz
                  go_wp2_with fail
                  go_roundw
                  case rel => exact ⟨k + 1, 2, by omega, by go_num, rfl, HR, HD6⟩
                  case measure => simp [intOf]; omega
                · have gc : decide (cf < 0) = false := decide_eq_false hc
                  clear hc
                  go_wp2_with fail
                  refine (HCF.out _).mono ?_
                  rintro e w6 ⟨rfl, hdz⟩
                  have HD6 : Hid (Drew w4 w6) := Lib.hid (HD.out.trans hdz)
                  clear hdz
                  go_wp2_with fail
                  go_roundw
                  case rel => exact ⟨k + 1, 0, by omega, by go_num, rfl, HZ, HD6⟩
                  case measure => simp [intOf]; omega
              · have HR := Lib.hid (HO.out rfl rfl)
                go_wp2_with fail
                go_roundw
                case rel => exact ⟨k + 1, 2, by omega, by go_num, rfl, HR, HD⟩
                case measure => simp [intOf]; omega
              · have HR := Lib.hid (HT.out rfl)
                go_wp2_with fail
                go_roundw
                case rel => exact ⟨k + 1, 2, by omega, by go_num, rfl, HR, HD⟩
                case measure => simp [intOf]; omega
            · have HR := Lib.hid (HON.out rfl)
              have hng := HNG.out rfl
              generalize cmpP f p = cf at *
              have gc : decide ((0 : Int) ≤ cf) = false := decide_eq_false (by omega)
              have gc2 : decide (cf < 0) = true := decide_eq_true hng
              rcases HIN.out rfl with rfl | rfl
              all_goals
                clear HIN HST hsd HO HT HPA hng HNG HON
                go_wp2_with fail
                refine (HCF.out _).mono ?_
                rintro e w6 ⟨rfl, hdz⟩
                have HD6 : Hid (Drew w4 w6) := Lib.hid (HD.out.trans hdz)
                clear hdz
                go_wp2_with fail
                go_roundw
                case rel => exact ⟨k + 1, 1, by omega, by go_num, rfl, HR, HD6⟩
                case measure => simp [intOf]; omega
        · go_wp2_with fail
          go_ret
          exact ⟨rfl, B4.out.trans (hd.out.below _)⟩
  · have g0 : (ck != 0) = true := by rw [bne_iff_ne]; exact hck
    clear hck
    go_wp2_with fail
    go_ret
    exact ⟨rfl, B4.out⟩
end Go.Proofs.YtplbcncbljcfmaaDoor
