/- The law GlobAny. -/
import Derived.Test.YthigepjddfdbmaaDoorGlobQ
import Derived.Test.YthigepjddfdbmaaDoorPathK
namespace Go.Proofs.YthigepjddfdbmaaDoor
open Go.RowKit Go.Lib

theorem ba_app (a b : Txt) : (⟨a.toArray⟩ : ByteArray) ++ (⟨b.toArray⟩ : ByteArray) = ⟨(a ++ b).toArray⟩ := by
  apply ByteArray.ext
  show (ByteArray.append _ _).data = _
  simp [ByteArray.append]
attribute [local go_sem] ba_app
def okP (s : Txt) : List PieceN := (okN (parseN s)).getD []
theorem okP_ok {s : Txt} (h : (okN (parseN s)).isSome = true) : parseN s = .ok (okP s) := by
  unfold okP
  cases hp : parseN s with
  | error c => rw [hp] at h; cases h
  | ok l => rfl
theorem parse_lit (s : Txt) (w : World) (hl : s.length ≤ 4194304) (hE : PEnv w) (h : (okN (parseN s)).isSome = true) :
    Calls Tryd.prog 10 #[.string ⟨s.toArray⟩] w fun e w' => ∃ pb, e = .returned (.tuple #[.pointer (some ⟨pb, 0, none⟩), .int .i64 0]) ∧ PatAt (fun k => w.heap.size ≤ k ∧ k < w'.heap.size) w' pb (okP s) ∧ Below w.heap.size w w' := by
  have := parse_any s w hl hE
  rw [okP_ok h] at this
  exact this
theorem match_from {w0 pb : Nat} {w1 : World} {ps : List PieceN} (h : PatAt (fun k => w0 ≤ k ∧ k < w1.heap.size) w1 pb ps) (hE : PEnv w1) : ∀ W, Below w1.heap.size w1 W → ∀ (s : Txt) (b : Bool), s.length ≤ 4194300 → matchB ps (namesL s) = b →
    Calls Tryd.prog 12 #[.pointer (some ⟨pb, 0, none⟩), .string ⟨s.toArray⟩] W fun e w' => e = .returned (.bool b) ∧ Below W.heap.size W w' := fun W hb s _ hs hm =>
  match_yes (fun k => k < w1.heap.size) pb ps s W (fun _ hk => Nat.lt_of_lt_of_le hk hb.size) (h.kept (fun k hk => ⟨hk.2, hb.block k hk.2⟩)) (hE.on hb) hs hm
theorem matchB_not {ps : List PieceN} {L : List Txt} (h : ¬ Mt (itemsP ps) L) : matchB ps L = false := by
  cases hb : matchB ps L with
  | false => rfl
  | true => exact absurd ((matchB_iff ps L).1 hb) h
theorem itemsP_cons (p : PieceN) (ps : List PieceN) : itemsP (p :: ps) = (p.map meansB) :: itemsP ps := rfl
theorem byte_wf {a : Int} (h : (Lit.int .u8 a).wf = true) : ∃ y : UInt8, a = (y.toNat : Int) := by
  have h1 : (IntKind.u8.min ≤ a) ∧ a ≤ IntKind.u8.max := by simpa [Lit.wf] using h
  have h2 : IntKind.u8.min = 0 := by decide
  have h3 : IntKind.u8.max = 255 := by decide
  rw [h2, h3] at h1
  refine ⟨UInt8.ofNat a.toNat, ?_⟩
  rw [UInt8.toNat_ofNat']
  omega
/-- Two stars mean all. -/
theorem all_means (L : List Txt) : matchB (okP [42, 42]) L = true := by
  have : okP [42, 42] = [none] := rfl
  rw [matchB_iff, this]
  exact mt_many.2 ⟨L, [], by simp, .nil⟩
def anW : Txt := [102, 114, 111, 109, 47, 42, 42, 47, 116, 111]
def anF : List (Option S4) := ((okP anW).getD 0 none).getD []
def anT : List (Option S4) := ((okP anW).getD 2 none).getD []
theorem anW_is : okP anW = [some anF, none, some anT] := by rfl
theorem anF_means : meansB anF [102, 114, 111, 109] = true := by rw [meansB_eq]; decide +kernel
theorem anT_means : meansB anT [116, 111] = true := by rw [meansB_eq]; decide +kernel
theorem anT_not : meansB anT [116, 111, 111] = false := by rw [meansB_eq]; decide +kernel
theorem way_yes (ns : List Txt) : matchB (okP anW) ([102, 114, 111, 109] :: (ns ++ [[116, 111]])) = true := by
  rw [matchB_iff, anW_is]
  exact .one anF_means (mt_many.2 ⟨ns, [[116, 111]], rfl, .one anT_means .nil⟩)
theorem way_no (ns : List Txt) : matchB (okP anW) ([102, 114, 111, 109] :: (ns ++ [[116, 111, 111]])) = false := by
  refine matchB_not ?_
  rw [anW_is]
  intro h
  have h2 : Mt ([some (meansB anF), none] ++ [some (meansB anT)]) (([102, 114, 111, 109] :: ns) ++ [[116, 111, 111]]) := h
  rw [mt_snoc_one, anT_not] at h2
  cases h2.2
theorem byte_all {P : UInt8 → Bool} (h : ∀ n, n < 256 → P (UInt8.ofNat n) = true) (x : UInt8) : P x = true := by
  have := h x.toNat x.toNat_lt
  rwa [UInt8.ofNat_toNat] at this
theorem one_means (x : UInt8) : matchB (okP [97, 63, 98]) (namesL [97, x, 98]) = (x != 47) := by
  have := byte_all (P := fun x => matchB (okP [97, 63, 98]) (namesL [97, x, 98]) == (x != 47)) (by decide +kernel) x
  exact beq_iff_eq.1 this
theorem set_means (x : UInt8) : matchB (okP [97, 91, 33, 99, 93, 98]) (namesL [97, x, 98]) = (x != 47 && x != 99) := by
  have := byte_all (P := fun x => matchB (okP [97, 91, 33, 99, 93, 98]) (namesL [97, x, 98]) == (x != 47 && x != 99)) (by decide +kernel) x
  exact beq_iff_eq.1 this
set_option maxRecDepth 100000 in
set_option maxHeartbeats 8000000 in
theorem any_law (S : Nat → Prop) (p : Txt) (v : Value) (L : List Txt) (x : UInt8) (w : World) (hS : ∀ k, S k → k < w.heap.size) (hv : StrsC S w v L) (hE : PEnv w) (hp : p.length ≤ 1048576) (hL : L.length ≤ 1048576) (hT : ∀ y ∈ L, y.length ≤ 1048576) :
    Calls Tryd.prog 8 #[.string ⟨p.toArray⟩, v, .int .u8 (x.toNat : Int)] w fun e w' => e = .returned (.bool true) ∧ Below w.heap.size w w' := by
  obtain ⟨la, lc, rfl⟩ := hv.shape
  have HV := Lib.hid (fun (W : World) (hb : Below w.heap.size w W) => hv.kept (S' := S) (w' := W) (fun k hk => ⟨hk, hb.block k (hS k hk)⟩))
  have HT := Lib.hid hT
  have HE := Lib.hid hE
  have HAW := Lib.hid (awake_any w hE)
  clear hv hE hT hS
  go_enter Tryd.func8, Tryd.ntmps8
  go_wp2_with fail
  refine HAW.out.mono ?_
  rintro e w1 ⟨rfl, hb1⟩
  have HB1 := Lib.hid hb1
  have HP := Lib.hid (parse_lit [42, 42] w1 (by decide) (HE.out.on hb1) (by decide +kernel))
  clear hb1 HAW
  go_wp2_with fail
  refine HP.out.mono ?_
  rintro e w2 ⟨pb1, rfl, hpt, hb2⟩
  have HB2 : Hid (Below w.heap.size w w2) := Lib.hid (HB1.out.trans (hb2.mono HB1.out.size))
  have HM1 := Lib.hid (match_from hpt (HE.out.on HB2.out))
  have HP2 := Lib.hid (parse_lit anW w2 (by decide) (HE.out.on HB2.out) (by decide +kernel))
  clear hb2 hpt HP HB1
  go_wp2_with fail
  refine HP2.out.mono ?_
  rintro e w3 ⟨pb2, rfl, hpt, hb3⟩
  have HQ3 := Lib.hid hb3
  have HB3 : Hid (Below w.heap.size w w3) := Lib.hid (HB2.out.trans (hb3.mono HB2.out.size))
  have HM2 := Lib.hid (match_from hpt (HE.out.on HB3.out))
  have HP3 := Lib.hid (parse_lit [97, 63, 98] w3 (by decide) (HE.out.on HB3.out) (by decide +kernel))
  clear hb3 hpt HP2
  go_wp2_with fail
  refine HP3.out.mono ?_
  rintro e w4 ⟨pb3, rfl, hpt, hb4⟩
  have HQ4 := Lib.hid hb4
  have HB4 : Hid (Below w.heap.size w w4) := Lib.hid (HB3.out.trans (hb4.mono HB3.out.size))
  have HM3 := Lib.hid (match_from hpt (HE.out.on HB4.out))
  have HP4 := Lib.hid (parse_lit [97, 91, 33, 99, 93, 98] w4 (by decide) (HE.out.on HB4.out) (by decide +kernel))
  clear hb4 hpt HP3
  go_wp2_with fail
  refine HP4.out.mono ?_
  rintro e w5 ⟨pb4, rfl, hpt, hb5⟩
  have HQ5 := Lib.hid hb5
  have HB5 : Hid (Below w.heap.size w w5) := Lib.hid (HB4.out.trans (hb5.mono HB4.out.size))
  have HM4 := Lib.hid (match_from hpt (HE.out.on HB5.out))
  have HC4 : Hid (∀ W, Below w5.heap.size w5 W → Below w4.heap.size w4 W) := Lib.hid (fun W h => HQ5.out.trans (h.mono HQ5.out.size))
  have HC3 : Hid (∀ W, Below w5.heap.size w5 W → Below w3.heap.size w3 W) := Lib.hid (fun W h => HQ4.out.trans ((HC4.out W h).mono HQ4.out.size))
  have HC2 : Hid (∀ W, Below w5.heap.size w5 W → Below w2.heap.size w2 W) := Lib.hid (fun W h => HQ3.out.trans ((HC3.out W h).mono HQ3.out.size))
  have HC0 : Hid (∀ W, Below w5.heap.size w5 W → Below w.heap.size w W) := Lib.hid (fun W h => HB5.out.trans (h.mono HB5.out.size))
  have HA := Lib.hid (HM1.out w5 (HC2.out _ (Below.refl _ _)) p true (by omega) (all_means _))
  clear hb5 hpt HP4 HB2 HB3 HB4 HM1
  go_wp2_with fail
  refine HA.out.mono ?_
  rintro e w6 ⟨rfl, hb6⟩
  have HB6 : Hid (Below w5.heap.size w5 w6) := Lib.hid hb6
  clear hb6 HA
  go_wp2_with fail
  go_loopw [59, 15] (fun i q wr => ∃ (k : Nat) (ns : List Txt) (qt : Txt), k ≤ L.length ∧ i = .int .i64 k ∧ q = .string ⟨qt.toArray⟩ ∧ qt.length ≤ 1048900 ∧ Hid (qt ≠ [] ∧ ∀ t, splitL (qt ++ t) = [102, 114, 111, 109] :: (ns ++ splitL t)) ∧ Hid (Below w5.heap.size w5 wr)) (fun i _ _ => L.length - (intOf i).toNat)
  case atStart => exact ⟨0, [], [102, 114, 111, 109, 47], Nat.zero_le _, rfl, rfl, by decide, Lib.hid ⟨by simp, fun t => splitL_app (a := [102, 114, 111, 109]) (by decide) t⟩, HB6⟩
  case round =>
    obtain ⟨k, ns, qt, hk, rfl, rfl, hql, hQ, hB⟩ := hrel
    by_cases hlt : k < L.length
    · obtain ⟨lb, rfl, hvS, _, hxs⟩ := StrsC.at (HV.out wr (HC0.out _ hB.out)) (by omega)
      have cx := hxs k hlt
      have hyl : (L.getD k []).length ≤ 1048576 := HT.out _ (getD_in hlt)
      clear hxs hvS
      generalize L.getD k [] = y at *
      have HN := Lib.hid (name_any y wr (by omega))
      obtain ⟨nb, hnb⟩ : ∃ b, nameB y = b := ⟨_, rfl⟩
      rw [hnb] at HN
      have HNB := Lib.hid hnb
      clear hnb
      go_wp2_with fail
      refine HN.out.mono ?_
      rintro e w7 ⟨rfl, hb7⟩
      have HB7 : Hid (Below w5.heap.size w5 w7) := Lib.hid (hB.out.trans (hb7.mono hB.out.size))
      clear hb7 hB HN cx
      cases nb
      · go_wp2_with fail
        go_ret
        exact ⟨rfl, HC0.out _ HB7.out⟩
      · have HYN := Lib.hid (nameB_47 HNB.out)
        have hy64 : y.length ≤ 64 := by
          have := HNB.out
          unfold nameB at this
          simp at this; omega
        by_cases h200 : 200 < qt.length
        · go_wp2_with fail
          go_ret
          exact ⟨rfl, HC0.out _ HB7.out⟩
        · have HQ2 : Hid (qt ++ y ++ [47] ≠ [] ∧ ∀ t, splitL (qt ++ y ++ [47] ++ t) = [102, 114, 111, 109] :: ((ns ++ [y]) ++ splitL t)) := Lib.hid ⟨by simp, fun t => by
            rw [show qt ++ y ++ [47] ++ t = qt ++ (y ++ 47 :: t) by simp, hQ.out.2, splitL_app HYN.out]; simp⟩
          go_wp2_with fail
          go_roundw
          case rel => exact ⟨k + 1, ns ++ [y], qt ++ y ++ [47], by omega, by go_num, by simp, by simp; omega, HQ2, HB7⟩
          case measure => simp [intOf]; omega
    · have hby : BytesC (fun _ => True) (wr.alloc (.cells #[.int .u8 (x.toNat : Int)] 5)) (.slice (some ⟨wr.heap.size, 0, none⟩) 1 1) [x] := Or.inr ⟨_, 1, rfl, by simp, by decide, Or.inr trivial, fun j u hj => by
        have hk := new_five wr #[.int .u8 (x.toNat : Int)] 5
        rw [add_pos, cell_of_row _ _ _ _ _ _ hk, Nat.zero_add]
        simpa [bv] using hj⟩
      have hcv := bytes_str hby
      have HBA : Hid (Below w5.heap.size w5 (wr.alloc (.cells #[.int .u8 (x.toNat : Int)] 5))) := Lib.hid (hB.out.alloc hB.out.size _)
      clear hby
      have HN1 : Hid (matchB (okP anW) (namesL (qt ++ [116, 111])) = true) := Lib.hid (by
        unfold namesL
        rw [if_neg (by simp), hQ.out.2, splitL_none (by decide)]
        exact way_yes ns)
      have HN2 : Hid (matchB (okP anW) (namesL (qt ++ [116, 111, 111])) = false) := Lib.hid (by
        unfold namesL
        rw [if_neg (by simp), hQ.out.2, splitL_none (by decide)]
        exact way_no ns)
      obtain ⟨b47, b99, g47, g99, m47, m99⟩ : ∃ b47 b99 : Bool, ((x.toNat : Int) == 47) = b47 ∧ ((x.toNat : Int) == 99) = b99 ∧ matchB (okP [97, 63, 98]) (namesL [97, x, 98]) = !b47 ∧ matchB (okP [97, 91, 33, 99, 93, 98]) (namesL [97, x, 98]) = (!b47 && !b99) := by
        rw [one_means, set_means]
        refine ⟨x == 47, x == 99, ?_, ?_, by simp [bne], by simp [bne]⟩
        · by_cases e : x = 47
          · rw [byte_t _ 47 (by omega) 47 rfl e, beq_iff_eq.2 e]
          · rw [byte_f _ 47 (by omega) 47 rfl e, beq_eq_false_iff_ne.2 e]
        · by_cases e : x = 99
          · rw [byte_t _ 99 (by omega) 99 rfl e, beq_iff_eq.2 e]
          · rw [byte_f _ 99 (by omega) 99 rfl e, beq_eq_false_iff_ne.2 e]
      have HO := Lib.hid m47
      have HSE := Lib.hid m99
      have n47 : ((x.toNat : Int) != 47) = !b47 := by rw [bne, g47]
      have n99 : ((x.toNat : Int) != 99) = !b99 := by rw [bne, g99]
      have e47 : decide ((x.toNat : Int) = 47) = b47 := by rw [← g47]; rfl
      have e99 : decide ((x.toNat : Int) = 99) = b99 := by rw [← g99]; rfl
      clear m47 m99 hQ hB g47 g99
      generalize hwa : wr.alloc (.cells #[.int .u8 (x.toNat : Int)] 5) = wa at *
      cases b47 <;> cases b99
      all_goals
        go_wp2_with fail
        refine (HM2.out wa (HC3.out _ HBA.out) (qt ++ [116, 111]) true (by simp; omega) HN1.out).mono ?_
        rintro e w7 ⟨rfl, hb7⟩
        have HB7 : Hid (Below w5.heap.size w5 w7) := Lib.hid (HBA.out.trans (hb7.mono HBA.out.size))
        clear hb7 HBA
        go_wp2_with fail
        refine (HM2.out w7 (HC3.out _ HB7.out) (qt ++ [116, 111, 111]) false (by simp; omega) HN2.out).mono ?_
        rintro e w8 ⟨rfl, hb8⟩
        have HB8 : Hid (Below w5.heap.size w5 w8) := Lib.hid (HB7.out.trans (hb8.mono HB7.out.size))
        clear hb8 HB7
        go_wp2_with fail
        refine (HM3.out w8 (HC4.out _ HB8.out) [97, x, 98] _ (by simp) HO.out).mono ?_
        rintro e w9 ⟨rfl, hb9⟩
        have HB9 : Hid (Below w5.heap.size w5 w9) := Lib.hid (HB8.out.trans (hb9.mono HB8.out.size))
        clear hb9 HB8
        go_wp2_with fail
        refine (HM4.out w9 HB9.out [97, x, 98] _ (by simp) HSE.out).mono ?_
        rintro e w10 ⟨rfl, hb10⟩
        have HB10 : Hid (Below w5.heap.size w5 w10) := Lib.hid (HB9.out.trans (hb10.mono HB9.out.size))
        clear hb10 HB9
        go_wp2_with fail
        go_ret
        exact ⟨rfl, HC0.out _ HB10.out⟩
end Go.Proofs.YthigepjddfdbmaaDoor
