/- The law of room. -/
import Derived.Test.YtigiaejhjpjcmaaDoorVfS
namespace Go.Proofs.YtigiaejhjpjcmaaDoor
open Go.RowKit Go.Maps
attribute [local go_sem ↓] Go.wp_at_zero Go.wp_at_succ
theorem index_four (F : Nat → Value) {k : Nat} (hk : k < 4) (W : World) : (Instr.index 39 (.agg (rowL 4 F).toArray) (.int .i64 (k : Int))).run Tryd.prog W = .ok (F k) W := by
  have hk2 : 0 ≤ (k : Int) ∧ (k : Int) < 4 := by omega
  have hu : Tryd.prog.underlying 39 = some (.array 4 9) := Tryd.underlying39
  simp [Instr.index, run_underlying hu, asIntOf, hk2, go_sem]
  rw [if_pos hk, rowL_at F hk]
  rfl
theorem upd_sum {h : Nat → Nat} {k : Nat} (hk : k < 4) (v : Nat) : (fun j => if j = k then v else h j) 0 + (fun j => if j = k then v else h j) 1 + (fun j => if j = k then v else h j) 2 + (fun j => if j = k then v else h j) 3 + h k = h 0 + h 1 + h 2 + h 3 + v := by
  have h4 : k = 0 ∨ k = 1 ∨ k = 2 ∨ k = 3 := by omega
  rcases h4 with rfl | rfl | rfl | rfl <;> simp <;> omega
theorem made_zero (n : Nat) : (madeCells (Value.cells (.int .u8 0)) (n * 1)).toList = bv (List.replicate n 0) := by
  rw [show Value.cells (.int .u8 0) = #[.int .u8 0] from rfl, Nat.mul_one, toList_madeCells_one]
  unfold bv
  rw [List.map_replicate]
  rfl
theorem step_make_full {P : Program} {ops : Array Oper} {o : Oper} {a : Act} {K : Act → World → Prop} {Q : Exit → Act → World → Prop} {E : Prop} (w : World) (hgd : o.guard = none) (l c : Operand) (t : TypeId) (hop : o.op = Op.makeSlice t l c)
    (base : Nat) (e : TypeId) (i : TypeInfo) (z : Value) (size : Nat) (h1 : P.underlying t = some (.slice e)) (h2 : P.info? e = some i) (h3 : i.zero = some z) (h4 : i.size = size)
    (kl kc : IntKind) (n : Nat) (hl : a.eval l = .int kl (n : Int)) (hc : a.eval c = .int kc (n : Int)) (b2 : i.bytes * n ≤ 281474976710656) (b3 : n ≤ maxLen) (b4 : base ≤ w.heap.size)
    (hK : ∀ w', w'.ownsRow base e size (.slice (some ⟨w.heap.size, 0, none⟩) n n) n (madeCells z.cells (n * size)).toList → w.grownBy w' none → K (a.put o.dst (.slice (some ⟨w.heap.size, 0, none⟩) n n)) w') :
    if Region.wanted o (yielded ops a.tmps) = true then Oper.wp P o a w K Q else E := by
  have hw : Region.wanted o (yielded ops a.tmps) = true := by simp [Region.wanted, hgd]
  rw [if_pos hw]
  obtain ⟨w', hrun, r1, r2⟩ := run_make_full (P := P) w base t e i z size h1 h2 h3 h4 kl kc n b2 b3 b4
  unfold Oper.wp
  simp [execOp, hop, hl, hc, hrun, Result.andThen]
  exact hK w' r1 r2
theorem wpAnyD.strong {P : Program} {md : Region.Mode} {ops : Array Oper} {Q : Exit → Act → World → Prop} {S S' : World → Prop} {t : Nat} (h : ∀ w, S' w → S w) : ∀ {fuel : Nat} {listed : Array Bool} {a : Act} {w : World}, wpAnyD P md ops Q S' t fuel listed a w → wpAnyD P md ops Q S t fuel listed a w
  | 0, _, _, _, hh => hh
  | _ + 1, _, _, _, hh => ⟨hh.1, fun i hi hit n => wpOp_mono (fun _ _ h2 => ⟨h _ h2.1, wpAnyD.strong h h2.2⟩) (hh.2.1 i hi hit n), hh.2.2⟩
theorem FsG.less {w0 w : World} {F F' : Nat → Prop} {bf : Nat} {s : Fs} (g : FsG w0 F w bf s) (h : ∀ k, F' k → F k) : FsG w0 F' w bf s := by
  obtain ⟨X, h1, hF⟩ := g.ex
  exact ⟨⟨X, h1, fun k hk => hF k (h k hk)⟩, g.below, g.ok⟩
set_option maxRecDepth 100000 in
set_option maxHeartbeats 16000000 in
theorem room_law (room : Int) (vs : Value) (ls : List Int) (w : World) (hv : CellsC (fun k => k < w.heap.size) w vs ls.length 1 (ls.map (Value.int .i64))) (hls : ls.length ≤ 1048576) (hc : ∀ c ∈ ls, -9223372036854775808 ≤ c ∧ c ≤ 9223372036854775807) (hE : PEnv w) (hro : -9223372036854775808 ≤ room ∧ room ≤ 9223372036854775807) :
    Calls Tryd.prog 4 #[.int .i64 room, vs] w (TrueP w) := by
  have HV := Lib.hid hv
  have HC := Lib.hid hc
  have HE := Lib.hid hE
  have HRO := Lib.hid hro
  obtain ⟨sa, sc, rfl⟩ : ∃ a c, vs = .slice a ls.length c := by
    rcases hv.2.2 with ⟨h0, a, c, e⟩ | ⟨g, o, cap, e, _⟩
    · exact ⟨a, c, by rw [e, h0]⟩
    · exact ⟨_, _, e⟩
  obtain ⟨ln, hln⟩ : ∃ n, ls.length = n := ⟨_, rfl⟩
  have HLN := Lib.hid hln
  rw [hln] at hls HV ⊢
  clear hv hc hE hro hln
  go_enter Tryd.func4, Tryd.ntmps4
  go_wp2_with fail
  refine (awake_any w HE.out).mono ?_
  rintro e w1 ⟨rfl, b1⟩
  have B1 := Lib.hid b1
  clear b1
  by_cases hbad : room < 0 ∨ 4194304 < room
  · have HNB := Lib.hid (new_bad room w1 hbad)
    clear hbad
    go_wp2_with fail
    refine HNB.out.mono ?_
    rintro e w2 ⟨rfl, rfl⟩
    go_wp2_with fail
    go_ret
    exact ⟨rfl, B1.out⟩
  obtain ⟨ro, rfl⟩ : ∃ n : Nat, room = (n : Int) := ⟨room.toNat, by omega⟩
  have hro4 : ro ≤ 4194304 := by omega
  have HN := Lib.hid (g_new B1.out ro hro4)
  clear hbad
  go_wp2_with fail
  refine HN.out.mono ?_
  rintro e w2 ⟨bf, rfl, g2, b2⟩
  have G2 := Lib.hid g2
  have HW2 : Hid (w.heap.size ≤ w2.heap.size) := Lib.hid (Nat.le_trans B1.out.size b2.size)
  clear g2 b2 HN
  go_upto_region 8 with fail
  have hn0 := new_five w2 #[.string ⟨#[97]⟩, .string ⟨#[98]⟩, .string ⟨#[99]⟩, .string ⟨#[100]⟩] 39
  have hh0 := new_five (w2.alloc (.cells #[.string ⟨#[97]⟩, .string ⟨#[98]⟩, .string ⟨#[99]⟩, .string ⟨#[100]⟩] 39)) #[.int .i64 0, .int .i64 0, .int .i64 0, .int .i64 0] 40
  have hz2 : (w2.alloc (.cells #[.string ⟨#[97]⟩, .string ⟨#[98]⟩, .string ⟨#[99]⟩, .string ⟨#[100]⟩] 39)).heap.size = w2.heap.size + 1 := by simp
  have hz3 : ((w2.alloc (.cells #[.string ⟨#[97]⟩, .string ⟨#[98]⟩, .string ⟨#[99]⟩, .string ⟨#[100]⟩] 39)).alloc (.cells #[.int .i64 0, .int .i64 0, .int .i64 0, .int .i64 0] 40)).heap.size = w2.heap.size + 2 := by simp
  rw [hz2] at hh0
  have b3 : Below w2.heap.size w2 ((w2.alloc (.cells #[.string ⟨#[97]⟩, .string ⟨#[98]⟩, .string ⟨#[99]⟩, .string ⟨#[100]⟩] 39)).alloc (.cells #[.int .i64 0, .int .i64 0, .int .i64 0, .int .i64 0] 40)) := ((Below.refl _ w2).alloc (Nat.le_refl _) _).alloc (by simp) _
  have RN3 : Hid (RF ((w2.alloc (.cells #[.string ⟨#[97]⟩, .string ⟨#[98]⟩, .string ⟨#[99]⟩, .string ⟨#[100]⟩] 39)).alloc (.cells #[.int .i64 0, .int .i64 0, .int .i64 0, .int .i64 0] 40)) w2.heap.size 39 4 (fun k => .string ⟨(nm4 k).toArray⟩)) := Lib.hid ⟨(Below.heap_alloc _ _ _ (by simp)).trans hn0⟩
  have RH3 : Hid (RF ((w2.alloc (.cells #[.string ⟨#[97]⟩, .string ⟨#[98]⟩, .string ⟨#[99]⟩, .string ⟨#[100]⟩] 39)).alloc (.cells #[.int .i64 0, .int .i64 0, .int .i64 0, .int .i64 0] 40)) (w2.heap.size + 1) 40 4 (fun _ => .int .i64 ((0 : Nat) : Int))) := Lib.hid ⟨hh0⟩
  have G3 := Lib.hid (G2.out.more (F' := fun k => w2.heap.size ≤ k ∧ k < w2.heap.size + 2) b3 (fun k hk => Or.inr ⟨hk.1, by rw [hz3]; exact hk.2⟩))
  clear hn0 hh0 hz2 hz3 b3 G2
  generalize (w2.alloc (.cells #[.string ⟨#[97]⟩, .string ⟨#[98]⟩, .string ⟨#[99]⟩, .string ⟨#[100]⟩] 39)).alloc (.cells #[.int .i64 0, .int .i64 0, .int .i64 0, .int .i64 0] 40) = w3 at *
  obtain ⟨nb, hnb⟩ : ∃ n, w2.heap.size = n := ⟨_, rfl⟩
  rw [hnb] at RN3 RH3 G3 HW2 ⊢
  clear hnb
  have c0 : w3.cell? ⟨nb, 0, none⟩ = some (.string ⟨#[97]⟩) := RN3.out.cell (k := 0) (by omega)
  have c1 : w3.cell? ⟨nb, 1, none⟩ = some (.string ⟨#[98]⟩) := RN3.out.cell (k := 1) (by omega)
  have c2 : w3.cell? ⟨nb, 2, none⟩ = some (.string ⟨#[99]⟩) := RN3.out.cell (k := 2) (by omega)
  have c3 : w3.cell? ⟨nb, 3, none⟩ = some (.string ⟨#[100]⟩) := RN3.out.cell (k := 3) (by omega)
  go_wp2_with fail
  clear c0 c1 c2 c3
  go_loopw [29] (fun i wr => ∃ k : Nat, k ≤ 4 ∧ i = .int .i64 (k : Int) ∧ Hid (FsG w (fun k => nb ≤ k ∧ k < nb + 2) wr bf (crQ ro k)) ∧ Hid (RF wr nb 39 4 (fun k => .string ⟨(nm4 k).toArray⟩)) ∧ Hid (RF wr (nb + 1) 40 4 (fun _ => .int .i64 ((0 : Nat) : Int)))) (fun i _ => 4 - (intOf i).toNat)
  case atStart => exact ⟨0, by omega, rfl, G3, RN3, RH3⟩
  case round =>
    clear G3 RN3 RH3
    obtain ⟨k, hk, rfl, G, RN, RH⟩ := hrel
    by_cases hlt : k < 4
    · have hix := fun W => (show (Instr.index 39 (.agg #[.string ⟨#[97]⟩, .string ⟨#[98]⟩, .string ⟨#[99]⟩, .string ⟨#[100]⟩]) (.int .i64 (k : Int))).run Tryd.prog W = .ok (.string ⟨(nm4 k).toArray⟩) W from index_four (fun k => .string ⟨(nm4 k).toArray⟩) hlt W)
      have HCR := Lib.hid (g_create G.out (by have := cr_steps ro k (by omega); omega) HE.out (nm4 k) (nm4_len k))
      rw [cr_step ro k hlt] at HCR
      go_wp2_with fail
      clear hix
      refine HCR.out.mono ?_
      rintro e w4 ⟨rfl, g4, _, f4⟩
      have G4 : Hid (FsG w (fun k => nb ≤ k ∧ k < nb + 2) w4 bf (crQ ro (k + 1))) := Lib.hid g4
      have RN4 := Lib.hid (RN.out.kept (f4 nb ⟨Nat.le_refl _, by omega⟩))
      have RH4 := Lib.hid (RH.out.kept (f4 (nb + 1) ⟨by omega, by omega⟩))
      clear g4 f4 HCR G RN RH
      go_wp2_with fail
      exact ⟨⟨k + 1, by omega, by go_num, G4, RN4, RH4⟩, by simp [intOf]; omega⟩
    · obtain rfl : k = 4 := by omega
      go_wp2_with fail
      go_loopw [39] (fun i wr => ∃ (k : Nat) (h : Nat → Nat) (s : Fs), k ≤ ln ∧ i = .int .i64 (k : Int) ∧ Hid (RoomI ro h s) ∧ Hid (s.steps ≤ 4 + k) ∧ Hid (h 0 + h 1 + h 2 + h 3 ≤ ro) ∧ Hid (FsG w (fun k => nb ≤ k ∧ k < nb + 2) wr bf s) ∧ Hid (RF wr nb 39 4 (fun k => .string ⟨(nm4 k).toArray⟩)) ∧ Hid (RF wr (nb + 1) 40 4 (fun j => .int .i64 ((h j : Nat) : Int)))) (fun i _ => ln - (intOf i).toNat)
      case atStart => exact ⟨0, fun _ => 0, crQ ro 4, Nat.zero_le _, rfl, Lib.hid (RoomI.start ro), Lib.hid (by show (4 : Nat) ≤ _; omega), Lib.hid (Nat.zero_le _), G, RN, RH⟩
      case round =>
        clear G RN RH
        obtain ⟨k, h, s, hk, rfl, HI, HST, HSU, G, RN, RH⟩ := hrel
        by_cases hlt : k < ln
        · obtain ⟨g, o, rfl, hgs, hck⟩ : ∃ g o, sa = some ⟨g, o, none⟩ ∧ g < w.heap.size ∧ ∀ j u, (ls.map (Value.int .i64))[j]? = some u → w.cell? ⟨g, o + j, none⟩ = some u := by
            rcases HV.out.2.2 with ⟨h0, _⟩ | ⟨g, o, cap, e, hg, _, _, hcell⟩
            · omega
            · injection e with e _ _
              exact ⟨g, o, e, hg, hcell⟩
          have hcm : ls.getD k 0 ∈ ls := by have := HLN.out; simp [List.getD, show k < ls.length by omega]
          have hcb := HC.out _ hcm
          have hce : wr.cell? ⟨g, o + k, none⟩ = some (.int .i64 (ls.getD k 0)) := by
            rw [World.cell?_of_block (w := w) (a := ⟨g, o + k, none⟩) (G.out.below.block g hgs)]
            have := HLN.out
            exact hck k _ (by simp [List.getD, show k < ls.length by omega])
          obtain ⟨c, hc⟩ : ∃ c, ls.getD k 0 = c := ⟨_, rfl⟩
          rw [hc] at hce hcb
          clear hck hcm hc hgs
          by_cases hskip : c < 0 ∨ 3000 < c
          · by_cases h0 : c < 0
            · have y1 : decide (c < 0) = true := decide_eq_true h0
              clear hskip
              go_wp2_with fail
              exact ⟨⟨k + 1, h, s, by omega, by go_num, HI, Lib.hid (Nat.le_trans HST.out (by omega)), HSU, G, RN, RH⟩, by simp [intOf]; omega⟩
            · have y1 : decide (c < 0) = false := decide_eq_false h0
              have y2 : decide (c > 3000) = true := decide_eq_true (by omega)
              clear hskip
              go_wp2_with fail
              exact ⟨⟨k + 1, h, s, by omega, by go_num, HI, Lib.hid (Nat.le_trans HST.out (by omega)), HSU, G, RN, RH⟩, by simp [intOf]; omega⟩
          · obtain ⟨n, rfl⟩ : ∃ n : Nat, c = (n : Int) := ⟨c.toNat, by omega⟩
            have hn3 : n ≤ 3000 := by omega
            have y1 : decide ((n : Int) < 0) = false := decide_eq_false (by omega)
            have y2 : decide ((n : Int) > 3000) = false := decide_eq_false (by omega)
            have y3 : decide (3000 < n) = false := decide_eq_false (by omega)
            clear hskip
            go_upto_region 18 with fail
            clear y1 y2 y3 hce
            obtain ⟨k4, hk4⟩ : ∃ x, k % 4 = x := ⟨_, rfl⟩
            obtain ⟨r7, hr7⟩ : ∃ x, k % 7 = x := ⟨_, rfl⟩
            have hk44 : k4 < 4 := by omega
            have he4 : (k : Int) % 4 = (k4 : Int) := by omega
            have he7 : (k : Int) % 7 = (r7 : Int) := by omega
            clear hk4 hr7
            have q0 : wr.cell? ⟨nb + 1, 0, none⟩ = some (.int .i64 ((h 0 : Nat) : Int)) := RH.out.cell (k := 0) (by omega)
            have q1 : wr.cell? ⟨nb + 1, 1, none⟩ = some (.int .i64 ((h 1 : Nat) : Int)) := RH.out.cell (k := 1) (by omega)
            have q2 : wr.cell? ⟨nb + 1, 2, none⟩ = some (.int .i64 ((h 2 : Nat) : Int)) := RH.out.cell (k := 2) (by omega)
            have q3 : wr.cell? ⟨nb + 1, 3, none⟩ = some (.int .i64 ((h 3 : Nat) : Int)) := RH.out.cell (k := 3) (by omega)
            obtain ⟨a0, ha0⟩ : ∃ x, h 0 = x := ⟨_, rfl⟩
            obtain ⟨a1, ha1⟩ : ∃ x, h 1 = x := ⟨_, rfl⟩
            obtain ⟨a2, ha2⟩ : ∃ x, h 2 = x := ⟨_, rfl⟩
            obtain ⟨a3, ha3⟩ : ∃ x, h 3 = x := ⟨_, rfl⟩
            have HA := Lib.hid (And.intro ha0 (And.intro ha1 (And.intro ha2 ha3)))
            have hsu := HSU.out
            rw [ha0] at q0 hsu
            rw [ha1] at q1 hsu
            rw [ha2] at q2 hsu
            rw [ha3] at q3 hsu
            clear ha0 ha1 ha2 ha3
            go_upto_region 20 with fail
            rw [he4]
            clear q0 q1 q2 q3 he4
            have hkb1 : (0 : Int) ≤ (k4 : Int) := by omega
            have hkb2 : (k4 : Int) < 4 := by omega
            by_cases hr6 : r7 = 6
            · have y6 : ((k : Int) % 7 == 6) = true := by rw [he7, hr6]; rfl
              have hy7 : (h k4 : Nat) ≤ 4194304 := by
                have h1 := HA.out
                have h4 : k4 = 0 ∨ k4 = 1 ∨ k4 = 2 ∨ k4 = 3 := by omega
                rcases h4 with rfl | rfl | rfl | rfl <;> omega
              clear hr6
              obtain ⟨s', hcs, hI', hst'⟩ := HI.out.cut hk44
              have HCU := Lib.hid (g_cut (G.out.beside (drewn _ wr 1)) (by have := HST.out; omega) (nm4 k4) (nm4_len k4) ((h k4 / 2 : Nat) : Int))
              rw [hcs] at HCU
              have HI2 := Lib.hid hI'
              have HST2 := Lib.hid hst'
              have t0 : wr.drew.cell? ⟨nb, k4, none⟩ = some (.string ⟨(nm4 k4).toArray⟩) := RN.out.cell hk44
              have t1 : wr.drew.cell? ⟨nb + 1, k4, none⟩ = some (.int .i64 ((h k4 : Nat) : Int)) := RH.out.cell hk44
              obtain ⟨hv, hhv⟩ : ∃ x, h k4 = x := ⟨_, rfl⟩
              rw [hhv] at t1 HCU hy7
              have HHV := Lib.hid hhv
              obtain ⟨hd, hhd⟩ : ∃ x, hv / 2 = x := ⟨_, rfl⟩
              rw [hhd] at HCU
              have HHD := Lib.hid hhd
              have hq1 : (hv : Int) / 2 = (hd : Int) := by omega
              clear hcs hI' hst' hhv hhd
              go_upto_region 21 with fail
              clear y6 he7
              go_still_tail 8, (by kernel_rfl)
              go_wp2_with fail
              refine HCU.out.mono ?_
              rintro e w4 ⟨rfl, g4, _, f4⟩
              have G4 := Lib.hid g4
              have RN4 := Lib.hid (RN.out.kept (w' := w4) (f4 nb ⟨Nat.le_refl _, by omega⟩))
              have RH4 := Lib.hid (RH.out.kept (w' := w4) (f4 (nb + 1) ⟨by omega, by omega⟩))
              clear g4 f4 HCU t0 t1 G RN RH
              have t1 : w4.cell? ⟨nb + 1, k4, none⟩ = some (.int .i64 ((h k4 : Nat) : Int)) := RH4.out.cell hk44
              rw [HHV.out] at t1
              have tf : w4.frozen? ⟨nb + 1, k4, none⟩ = false := RH4.out.free k4
              go_upto_region 32 with fail
              clear t1 tf hq1
              have G5 := Lib.hid (G4.out.write (b := nb + 1) ⟨by omega, by omega⟩ (by have := HW2.out; omega) (Alone.set (nb + 1) k4 w4 (.int .i64 (hd : Int))))
              have RN5 := Lib.hid (RN4.out.kept (w' := w4.setCell ⟨nb + 1, k4, none⟩ (.int .i64 (hd : Int))) (Below.heap_setCell w4 _ _ _ (by show nb ≠ nb + 1; omega)))
              have RH5 : Hid (RF (w4.setCell ⟨nb + 1, k4, none⟩ (.int .i64 (hd : Int))) (nb + 1) 40 4 (fun j => .int .i64 (((fun j => if j = k4 then h k4 / 2 else h j) j : Nat) : Int))) := Lib.hid ((RH4.out.set hk44 (.int .i64 (hd : Int))).congr (fun j _ => by
                show (if j = k4 then Value.int .i64 (hd : Int) else .int .i64 ((h j : Nat) : Int)) = .int .i64 (((if j = k4 then h k4 / 2 else h j) : Nat) : Int)
                by_cases e : j = k4
                · rw [if_pos e, if_pos e, HHV.out, HHD.out]
                · rw [if_neg e, if_neg e]))
              have hsum := upd_sum (h := h) hk44 (h k4 / 2)
              generalize w4.setCell ⟨nb + 1, k4, none⟩ (.int .i64 (hd : Int)) = w5 at *
              go_wp2_with fail
              refine ⟨?_, by simp [intOf]; omega⟩
              (repeat apply Exists.intro)
              refine ⟨?_, rfl⟩
              exact ⟨k + 1, fun j => if j = k4 then h k4 / 2 else h j, s', by omega, by go_num, HI2, Lib.hid (by have h1 := HST2.out; have h2 := HST.out; omega), Lib.hid (by have h1 := HSU.out; have h2 : h k4 / 2 ≤ h k4 := Nat.div_le_self _ _; omega), G5, RN5, RH5⟩
            · have y6 : ((k : Int) % 7 == 6) = false := by rw [he7]; exact beq_eq_false_iff_ne.2 (by omega)
              clear hr6
              go_upto_region 24 with fail
              clear y6 he7
              obtain ⟨s', cd, hap, hcase⟩ : ∃ (s' : Fs) (cd : Int), appendS s (nm4 k4) (List.replicate n 0) = (s', cd) ∧ ((cd = 0 ∧ h 0 + h 1 + h 2 + h 3 + n ≤ ro ∧ RoomI ro (fun j => if j = k4 then h k4 + n else h j) s' ∧ s'.steps = s.steps + 1) ∨ (cd = 3 ∧ ¬ h 0 + h 1 + h 2 + h 3 + n ≤ ro ∧ s' = s)) := by
                by_cases hf : h 0 + h 1 + h 2 + h 3 + n ≤ ro
                · obtain ⟨s', h1, h2, h3⟩ := HI.out.app_ok hk44 (List.replicate n 0) (by rw [List.length_replicate]; exact hf)
                  rw [List.length_replicate] at h2
                  exact ⟨s', 0, h1, Or.inl ⟨rfl, hf, h2, h3⟩⟩
                · exact ⟨s, 3, HI.out.app_no hk44 (List.replicate n 0) (by rw [List.length_replicate]; exact hf), Or.inr ⟨rfl, hf, rfl⟩⟩
              have HAPS := Lib.hid hap
              have HCASE := Lib.hid hcase
              obtain ⟨i0, hi, hz0, hz1, hz2⟩ := info_parts Tryd.info5
              clear hap hcase
              refine wp_region_D 7 (fun W => W.cell? ⟨nb, k4, none⟩ = some (.string ⟨(nm4 k4).toArray⟩)) (by kernel_rfl) (by kernel_rfl) (by kernel_rfl) ?_
              have hSd : wr.drew.cell? ⟨nb, k4, none⟩ = some (.string ⟨(nm4 k4).toArray⟩) := RN.out.cell hk44
              refine wpAnyD_take (i := 0) (oi := ⟨_, _, _, _, _, _⟩) (v := ?_) rfl (by kernel_rfl) (by kernel_rfl) (by kernel_rfl) (by kernel_rfl) (fun _ _ _ h => h) (fun _ _ h => h) (Or.inl (Or.inl ⟨by rfl, ?_⟩)) hSd ?_
              rotate_left
              · intro W hSw; (try dsimp only at hSw); first | (go_simp; done) | (go_simp; with_reducible rfl)
              try simp only [Act.put, List.setIfInBounds_toArray, List.set_cons_zero, List.set_cons_succ]
              refine wpAnyD_take (i := 1) (oi := ⟨_, _, _, _, _, _⟩) (v := ?_) rfl (by kernel_rfl) (by kernel_rfl) (by kernel_rfl) (by kernel_rfl) (fun _ _ _ h => h) (fun _ _ h => h) (Or.inl (Or.inl ⟨by rfl, ?_⟩)) hSd ?_
              rotate_left
              · intro W hSw; (try dsimp only at hSw); first | (go_simp; done) | (go_simp; with_reducible rfl)
              try simp only [Act.put, List.setIfInBounds_toArray, List.set_cons_zero, List.set_cons_succ]
              refine wpAnyD_take (i := 2) (oi := ⟨_, _, _, _, _, _⟩) (v := ?_) rfl (by kernel_rfl) (by kernel_rfl) (by kernel_rfl) (by kernel_rfl) (fun _ _ _ h => h) (fun _ _ h => h) (Or.inl (Or.inl ⟨by rfl, ?_⟩)) hSd ?_
              rotate_left
              · intro W hSw; (try dsimp only at hSw); first | (go_simp; done) | (go_simp; with_reducible rfl)
              try simp only [Act.put, List.setIfInBounds_toArray, List.set_cons_zero, List.set_cons_succ]
              refine wpAnyD_take (i := 3) (oi := ⟨_, _, _, _, _, _⟩) (v := ?_) rfl (by kernel_rfl) (by kernel_rfl) (by kernel_rfl) (by kernel_rfl) (fun _ _ _ h => h) (fun _ _ h => h) (Or.inl (Or.inl ⟨by rfl, ?_⟩)) hSd ?_
              rotate_left
              · intro W hSw; (try dsimp only at hSw); first | (go_simp; done) | (go_simp; with_reducible rfl)
              try simp only [Act.put, List.setIfInBounds_toArray, List.set_cons_zero, List.set_cons_succ]
              refine wpAnyD_take (i := 4) (oi := ⟨_, _, _, _, _, _⟩) (v := ?_) rfl (by kernel_rfl) (by kernel_rfl) (by kernel_rfl) (by kernel_rfl) (fun _ _ _ h => h) (fun _ _ h => h) (Or.inl (Or.inl ⟨by rfl, ?_⟩)) hSd ?_
              rotate_left
              · intro W hSw; (try dsimp only at hSw); first | (go_simp; done) | (go_simp; with_reducible rfl)
              try simp only [Act.put, List.setIfInBounds_toArray, List.set_cons_zero, List.set_cons_succ]
              clear hSd
              refine wpAnyD_one (i := 5) (o := ⟨_, _, _, _, _, _⟩) (by kernel_rfl) (by decide) rfl (fun m5 K hK0 => ?_)
              have hK := Lib.hid hK0
              clear hK0
              have G4 : Hid (FsG w (fun k => nb ≤ k ∧ k < nb + 2) (wr.drew.drewN m5) bf s) := Lib.hid ((G.out.beside (drewn _ wr 1)).beside (drewn _ _ m5))
              have RN4 : Hid (RF (wr.drew.drewN m5) nb 39 4 (fun k => .string ⟨(nm4 k).toArray⟩)) := Lib.hid (RN.out.kept rfl)
              have RH4 : Hid (RF (wr.drew.drewN m5) (nb + 1) 40 4 (fun j => .int .i64 ((h j : Nat) : Int))) := Lib.hid (RH.out.kept rfl)
              generalize wr.drew.drewN m5 = w4 at *
              clear G RN RH
              refine step_make_full _ rfl _ _ 22 (by rfl) w4.heap.size 5 i0 (.int .u8 0) 1 Tryd.underlying22 hi hz0 hz1 .i64 .i64 n (by rfl) (by rfl) (by rw [hz2]; omega) (by unfold maxLen; omega) (Nat.le_refl _) ?_
              intro w5 hown hgrow
              have B5 : Hid (BytesC (fun k => w4.heap.size ≤ k ∧ k < w5.heap.size) w5 (.slice (some ⟨w4.heap.size, 0, none⟩) n n) (List.replicate n 0)) := Lib.hid (own_c (by unfold Own; rw [List.length_replicate, ← made_zero]; exact hown))
              have hb5 := below_of hgrow
              have G5 : Hid (FsG w (fun k => (nb ≤ k ∧ k < nb + 2) ∨ (w4.heap.size ≤ k ∧ k < w5.heap.size)) w5 bf s) := Lib.hid (G4.out.more hb5 (fun k hk => hk))
              have RN5 := Lib.hid (RN4.out.kept (hb5.block nb RN4.out.lt))
              have RH5 := Lib.hid (RH4.out.kept (hb5.block (nb + 1) RH4.out.lt))
              clear hown hgrow hb5
              refine hK.out _ _ (RN5.out.cell hk44) ?_
              clear hK K
              try simp only [Act.put, List.setIfInBounds_toArray, List.set_cons_zero, List.set_cons_succ]
              refine wpAnyD_one (i := 6) (o := ⟨_, _, _, _, _, _⟩) (by kernel_rfl) (by decide) rfl (fun m6 K hK0 => ?_)
              have hK := Lib.hid hK0
              clear hK0
              have HAP := Lib.hid (g_append (G5.out.beside (drewn _ w5 m6)) (by have := HST.out; omega) (nm4 k4) (nm4_len k4) _ _ (List.replicate n 0) (B5.out.drewN m6) (fun k hk => Or.inr (Or.inr hk)) (by rw [List.length_replicate]; omega))
              rw [HAPS.out] at HAP
              go_simp
              refine HAP.out.mono ?_
              rintro e w6 ⟨rfl, g6, _, f6⟩
              have G6 : Hid (FsG w (fun k => nb ≤ k ∧ k < nb + 2) w6 bf s') := Lib.hid (g6.less (fun k hk => Or.inl hk))
              have RN6 := Lib.hid (RN5.out.kept (w' := w6) (f6 nb (Or.inl ⟨Nat.le_refl _, by omega⟩)))
              have RH6 := Lib.hid (RH5.out.kept (w' := w6) (f6 (nb + 1) (Or.inl ⟨by omega, by omega⟩)))
              clear g6 f6 HAP G4 RN4 RH4 G5 RN5 RH5 B5
              refine hK.out _ _ (RN6.out.cell hk44) ?_
              clear hK K
              refine wpAnyD_last (by kernel_rfl) (fun nd => ?_)
              refine wpOp_one rfl (by rfl) ?_
              have G7 : Hid (FsG w (fun k => nb ≤ k ∧ k < nb + 2) (w6.drewN nd) bf s') := Lib.hid (G6.out.beside (drewn _ _ nd))
              have RN7 : Hid (RF (w6.drewN nd) nb 39 4 (fun k => .string ⟨(nm4 k).toArray⟩)) := Lib.hid (RN6.out.kept rfl)
              have RH7 : Hid (RF (w6.drewN nd) (nb + 1) 40 4 (fun j => .int .i64 ((h j : Nat) : Int))) := Lib.hid (RH6.out.kept rfl)
              generalize w6.drewN nd = w7 at *
              clear G6 RN6 RH6 hi hz0 hz1 hz2 i0
              go_simp
              rcases HCASE.out with ⟨rfl, hfit, hI', hst'⟩ | ⟨rfl, hfit, rfl⟩
              · have HI2 := Lib.hid hI'
                have HST2 := Lib.hid hst'
                have ha := HA.out
                have yf : decide ((a0 : Int) + a1 + a2 + a3 + n ≤ (ro : Int)) = true := decide_eq_true (by rw [ha.1, ha.2.1, ha.2.2.1, ha.2.2.2] at hfit; omega)
                have hus : Hid ((used s' : Int) = (a0 : Int) + a1 + a2 + a3 + n) := Lib.hid (by
                  have h1 := HI2.out.used
                  have h2 := upd_sum (h := h) hk44 (h k4 + n)
                  rw [ha.1, ha.2.1, ha.2.2.1, ha.2.2.2] at h2
                  dsimp only at h1 h2
                  omega)
                have hfitb : a0 + a1 + a2 + a3 + n ≤ ro := by rw [ha.1, ha.2.1, ha.2.2.1, ha.2.2.2] at hfit; exact hfit
                have hbk : h k4 + n ≤ ro := by
                  have h4 : k4 = 0 ∨ k4 = 1 ∨ k4 = 2 ∨ k4 = 3 := by omega
                  rcases h4 with rfl | rfl | rfl | rfl <;> omega
                clear hI' hst' ha hfit HCASE HAPS
                go_upto_region 28 with fail
                clear yf
                have t1 : w7.cell? ⟨nb + 1, k4, none⟩ = some (.int .i64 ((h k4 : Nat) : Int)) := RH7.out.cell hk44
                have tf : w7.frozen? ⟨nb + 1, k4, none⟩ = false := RH7.out.free k4
                obtain ⟨hv, hhv⟩ : ∃ x, h k4 = x := ⟨_, rfl⟩
                have HHV := Lib.hid hhv
                rw [hhv] at t1 hbk
                clear hhv
                go_upto_region 30 with fail
                have G8 := Lib.hid (G7.out.write (b := nb + 1) ⟨by omega, by omega⟩ (by have := HW2.out; omega) (Alone.set (nb + 1) k4 w7 (.int .i64 ((hv : Int) + (n : Int)))))
                have RN8 := Lib.hid (RN7.out.kept (w' := w7.setCell ⟨nb + 1, k4, none⟩ (.int .i64 ((hv : Int) + (n : Int)))) (Below.heap_setCell w7 _ _ _ (by show nb ≠ nb + 1; omega)))
                have RH8 : Hid (RF (w7.setCell ⟨nb + 1, k4, none⟩ (.int .i64 ((hv : Int) + (n : Int)))) (nb + 1) 40 4 (fun j => .int .i64 (((fun j => if j = k4 then h k4 + n else h j) j : Nat) : Int))) := Lib.hid ((RH7.out.set hk44 (.int .i64 ((hv : Int) + (n : Int)))).congr (fun j _ => by
                  show (if j = k4 then Value.int .i64 ((hv : Int) + (n : Int)) else .int .i64 ((h j : Nat) : Int)) = .int .i64 (((if j = k4 then h k4 + n else h j) : Nat) : Int)
                  by_cases e : j = k4
                  · rw [if_pos e, if_pos e, HHV.out]; rfl
                  · rw [if_neg e, if_neg e]))
                generalize w7.setCell ⟨nb + 1, k4, none⟩ (.int .i64 ((hv : Int) + (n : Int))) = w8 at *
                have HLF := Lib.hid (g_left G8.out (by have h1 := HST2.out; have h2 := HST.out; omega))
                rw [HI2.out.rm, hus.out] at HLF
                clear t1 tf G7 RN7 RH7
                go_wp2_with fail
                refine HLF.out.mono ?_
                rintro e w9 ⟨m8, rfl, rfl⟩
                have G9 : Hid (FsG w (fun k => nb ≤ k ∧ k < nb + 2) (w8.drewN m8) bf s') := Lib.hid (G8.out.beside (drewn _ w8 m8))
                have RN9 : Hid (RF (w8.drewN m8) nb 39 4 (fun k => .string ⟨(nm4 k).toArray⟩)) := Lib.hid (RN8.out.kept rfl)
                have RH9 : Hid (RF (w8.drewN m8) (nb + 1) 40 4 (fun j => .int .i64 (((fun j => if j = k4 then h k4 + n else h j) j : Nat) : Int))) := Lib.hid (RH8.out.kept rfl)
                generalize w8.drewN m8 = w9 at *
                have HUS := Lib.hid (g_used G9.out)
                rw [hus.out] at HUS
                clear HLF G8 RN8 RH8
                go_wp2_with fail
                refine HUS.out.mono ?_
                rintro e w10 ⟨rfl, rfl⟩
                clear HUS
                go_wp2_with fail
                have hsum := upd_sum (h := h) hk44 (h k4 + n)
                dsimp only at hsum
                have hha := HA.out
                first
                  | exact ⟨⟨k + 1, fun j => if j = k4 then h k4 + n else h j, s', by omega, by go_num, HI2, Lib.hid (by have h1 := HST2.out; have h2 := HST.out; omega), Lib.hid (by have h1 := HSU.out; dsimp only; omega), G9, RN9, RH9⟩, by simp [intOf]; omega⟩
                  | (refine ⟨?_, by simp [intOf]; omega⟩; (repeat apply Exists.intro); exact ⟨⟨k + 1, fun j => if j = k4 then h k4 + n else h j, s', by omega, by go_num, HI2, Lib.hid (by have h1 := HST2.out; have h2 := HST.out; omega), Lib.hid (by have h1 := HSU.out; dsimp only; omega), G9, RN9, RH9⟩, rfl⟩)
              · have ha := HA.out
                have yf : decide ((a0 : Int) + a1 + a2 + a3 + n ≤ (ro : Int)) = false := decide_eq_false (by rw [ha.1, ha.2.1, ha.2.2.1, ha.2.2.2] at hfit; omega)
                have hus : Hid ((used s' : Int) = (a0 : Int) + a1 + a2 + a3) := Lib.hid (by
                  have h1 := HI.out.used
                  rw [ha.1, ha.2.1, ha.2.2.1, ha.2.2.2] at h1
                  omega)
                clear ha hfit HCASE HAPS
                go_upto_region 30 with fail
                have HLF := Lib.hid (g_left G7.out (by have h2 := HST.out; omega))
                rw [HI.out.rm, hus.out] at HLF
                clear yf
                go_wp2_with fail
                refine HLF.out.mono ?_
                rintro e w9 ⟨m8, rfl, rfl⟩
                have G9 : Hid (FsG w (fun k => nb ≤ k ∧ k < nb + 2) (w7.drewN m8) bf s') := Lib.hid (G7.out.beside (drewn _ w7 m8))
                have RN9 : Hid (RF (w7.drewN m8) nb 39 4 (fun k => .string ⟨(nm4 k).toArray⟩)) := Lib.hid (RN7.out.kept rfl)
                have RH9 : Hid (RF (w7.drewN m8) (nb + 1) 40 4 (fun j => .int .i64 ((h j : Nat) : Int))) := Lib.hid (RH7.out.kept rfl)
                generalize w7.drewN m8 = w9 at *
                have HUS := Lib.hid (g_used G9.out)
                rw [hus.out] at HUS
                clear HLF G7 RN7 RH7
                go_wp2_with fail
                refine HUS.out.mono ?_
                rintro e w10 ⟨rfl, rfl⟩
                clear HUS
                go_wp2_with fail
                first
                  | exact ⟨⟨k + 1, h, s', by omega, by go_num, HI, Lib.hid (by have h2 := HST.out; omega), HSU, G9, RN9, RH9⟩, by simp [intOf]; omega⟩
                  | (refine ⟨?_, by simp [intOf]; omega⟩; (repeat apply Exists.intro); exact ⟨⟨k + 1, h, s', by omega, by go_num, HI, Lib.hid (by have h2 := HST.out; omega), HSU, G9, RN9, RH9⟩, rfl⟩)
        · obtain rfl : k = ln := by omega
          obtain ⟨b1, hb1⟩ : ∃ x, h 1 = x := ⟨_, rfl⟩
          obtain ⟨b2, hb2⟩ : ∃ x, h 2 = x := ⟨_, rfl⟩
          obtain ⟨b3, hb3⟩ : ∃ x, h 3 = x := ⟨_, rfl⟩
          have HB := Lib.hid (And.intro hb1 (And.intro hb2 hb3))
          have hsu : b1 + b2 + b3 ≤ ro := by have := HSU.out; omega
          clear hb1 hb2 hb3
          go_upto_region 33 with fail
          refine wp_region_D 16 (fun _ => True) (by kernel_rfl) (by kernel_rfl) (by kernel_rfl) ?_
          have hSd : True := trivial
          refine wpAnyD_take (i := 0) (oi := ⟨_, _, _, _, _, _⟩) (v := ?_) rfl (by kernel_rfl) (by kernel_rfl) (by kernel_rfl) (by kernel_rfl) (fun _ _ _ h => h) (fun W m h => h) (Or.inl (Or.inl ⟨by rfl, ?_⟩)) hSd ?_
          rotate_left
          · intro W hSw; (try dsimp only at hSw); first | (go_simp; done) | (go_simp; with_reducible rfl)
          try simp only [Act.put, List.setIfInBounds_toArray, List.set_cons_zero, List.set_cons_succ]
          clear hSd
          refine wpAnyD_one (i := 1) (o := ⟨_, _, _, _, _, _⟩) (by kernel_rfl) (by decide) rfl (fun m5 K hK0 => ?_)
          have hK := Lib.hid hK0
          clear hK0
          have G5 : Hid (FsG w (fun k => nb ≤ k ∧ k < nb + 2) (wr.drew.drewN m5) bf s) := Lib.hid ((G.out.beside (drewn _ wr 1)).beside (drewn _ _ m5))
          have RH5 : Hid (RF (wr.drew.drewN m5) (nb + 1) 40 4 (fun j => .int .i64 ((h j : Nat) : Int))) := Lib.hid (RH.out.kept rfl)
          generalize wr.drew.drewN m5 = w5 at *
          clear G RN RH
          have HRM := Lib.hid (g_remove G5.out (by have := HST.out; omega) [97] (by decide))
          obtain ⟨s2, hs2⟩ : ∃ x, (removeS s [97]).1 = x := ⟨_, rfl⟩
          have hus : Hid ((used s2 : Int) = (b1 : Int) + b2 + b3) := Lib.hid (by
            have h1 := HI.out.rem.2
            rw [hs2, HB.out.1, HB.out.2.1, HB.out.2.2] at h1
            omega)
          rw [HI.out.rem.1, hs2] at HRM
          clear hs2
          go_simp
          refine HRM.out.mono ?_
          rintro e w6 ⟨rfl, g6, _, f6⟩
          have RH6 := Lib.hid (RH5.out.kept (w' := w6) (f6 (nb + 1) ⟨by omega, by omega⟩))
          have hSd : FsG w (fun k => nb ≤ k ∧ k < nb + 2) w6 bf s2 ∧ w6.cell? ⟨nb + 1, 1, none⟩ = some (.int .i64 (b1 : Int)) ∧ w6.cell? ⟨nb + 1, 2, none⟩ = some (.int .i64 (b2 : Int)) ∧ w6.cell? ⟨nb + 1, 3, none⟩ = some (.int .i64 (b3 : Int)) := ⟨g6, by have h1 := RH6.out.cell (k := 1) (by omega); rw [HB.out.1] at h1; exact h1, by have h1 := RH6.out.cell (k := 2) (by omega); rw [HB.out.2.1] at h1; exact h1, by have h1 := RH6.out.cell (k := 3) (by omega); rw [HB.out.2.2] at h1; exact h1⟩
          clear g6 f6 HRM RH6 RH5 G5
          refine hK.out _ _ trivial ?_
          clear hK K
          try simp only [Act.put, List.setIfInBounds_toArray, List.set_cons_zero, List.set_cons_succ]
          refine wpAnyD.strong (S' := fun W => FsG w (fun k => nb ≤ k ∧ k < nb + 2) W bf s2 ∧ W.cell? ⟨nb + 1, 1, none⟩ = some (.int .i64 (b1 : Int)) ∧ W.cell? ⟨nb + 1, 2, none⟩ = some (.int .i64 (b2 : Int)) ∧ W.cell? ⟨nb + 1, 3, none⟩ = some (.int .i64 (b3 : Int))) (fun _ _ => trivial) ?_
          refine wpAnyD_take (i := 2) (oi := ⟨_, _, _, _, _, _⟩) (v := ?_) rfl (by kernel_rfl) (by kernel_rfl) (by kernel_rfl) (by kernel_rfl) (fun _ _ _ h => h) (fun W m h => ⟨h.1.beside (drewn _ W m), h.2⟩) (Or.inl (Or.inl ⟨by rfl, ?_⟩)) hSd ?_
          rotate_left
          · intro W hSw; (try dsimp only at hSw); have c1 := hSw.2.1; have c2 := hSw.2.2.1; have c3 := hSw.2.2.2; clear hSw; first | (go_simp; done) | (go_simp; with_reducible rfl)
          try simp only [Act.put, List.setIfInBounds_toArray, List.set_cons_zero, List.set_cons_succ]
          refine wpAnyD_take (i := 3) (oi := ⟨_, _, _, _, _, _⟩) (v := ?_) rfl (by kernel_rfl) (by kernel_rfl) (by kernel_rfl) (by kernel_rfl) (fun _ _ _ h => h) (fun W m h => ⟨h.1.beside (drewn _ W m), h.2⟩) (Or.inl (Or.inl ⟨by rfl, ?_⟩)) hSd ?_
          rotate_left
          · intro W hSw; (try dsimp only at hSw); have c1 := hSw.2.1; have c2 := hSw.2.2.1; have c3 := hSw.2.2.2; clear hSw; first | (go_simp; done) | (go_simp; with_reducible rfl)
          try simp only [Act.put, List.setIfInBounds_toArray, List.set_cons_zero, List.set_cons_succ]
          refine wpAnyD_take (i := 4) (oi := ⟨_, _, _, _, _, _⟩) (v := ?_) rfl (by kernel_rfl) (by kernel_rfl) (by kernel_rfl) (by kernel_rfl) (fun _ _ _ h => h) (fun W m h => ⟨h.1.beside (drewn _ W m), h.2⟩) (Or.inl (Or.inl ⟨by rfl, ?_⟩)) hSd ?_
          rotate_left
          · intro W hSw; (try dsimp only at hSw); have c1 := hSw.2.1; have c2 := hSw.2.2.1; have c3 := hSw.2.2.2; clear hSw; first | (go_simp; done) | (go_simp; with_reducible rfl)
          try simp only [Act.put, List.setIfInBounds_toArray, List.set_cons_zero, List.set_cons_succ]
          refine wpAnyD_take (i := 5) (oi := ⟨_, _, _, _, _, _⟩) (v := .int .i64 ((b1 : Int) + b2 + b3)) rfl (by kernel_rfl) (by kernel_rfl) (by kernel_rfl) (by kernel_rfl) (fun _ _ _ h => h) (fun W m h => ⟨h.1.beside (drewn _ W m), h.2⟩) (Or.inr ⟨by rfl, fun W hW => ⟨17, #[.pointer (some ⟨bf, 0, none⟩)], ?_, (g_used hW.1).mono (fun _ _ h => ⟨h.1.trans (by rw [hus.out]), 0, h.2.symm⟩)⟩⟩) hSd ?_
          · first | (go_simp; done) | (go_simp; with_reducible rfl)
          try simp only [Act.put, List.setIfInBounds_toArray, List.set_cons_zero, List.set_cons_succ]
          refine wpAnyD_take (i := 6) (oi := ⟨_, _, _, _, _, _⟩) (v := ?_) rfl (by kernel_rfl) (by kernel_rfl) (by kernel_rfl) (by kernel_rfl) (fun _ _ _ h => h) (fun W m h => ⟨h.1.beside (drewn _ W m), h.2⟩) (Or.inl (Or.inl ⟨by rfl, ?_⟩)) hSd ?_
          rotate_left
          · intro W hSw; (try dsimp only at hSw); have c1 := hSw.2.1; have c2 := hSw.2.2.1; have c3 := hSw.2.2.2; clear hSw; first | (go_simp; done) | (go_simp; with_reducible rfl)
          try simp only [Act.put, List.setIfInBounds_toArray, List.set_cons_zero, List.set_cons_succ]
          refine wpAnyD_take (i := 7) (oi := ⟨_, _, _, _, _, _⟩) (v := ?_) rfl (by kernel_rfl) (by kernel_rfl) (by kernel_rfl) (by kernel_rfl) (fun _ _ _ h => h) (fun W m h => ⟨h.1.beside (drewn _ W m), h.2⟩) (Or.inl (Or.inl ⟨by rfl, ?_⟩)) hSd ?_
          rotate_left
          · intro W hSw; (try dsimp only at hSw); have c1 := hSw.2.1; have c2 := hSw.2.2.1; have c3 := hSw.2.2.2; clear hSw; first | (go_simp; done) | (go_simp; with_reducible rfl)
          try simp only [Act.put, List.setIfInBounds_toArray, List.set_cons_zero, List.set_cons_succ]
          refine wpAnyD_take (i := 8) (oi := ⟨_, _, _, _, _, _⟩) (v := ?_) rfl (by kernel_rfl) (by kernel_rfl) (by kernel_rfl) (by kernel_rfl) (fun _ _ _ h => h) (fun W m h => ⟨h.1.beside (drewn _ W m), h.2⟩) (Or.inl (Or.inl ⟨by rfl, ?_⟩)) hSd ?_
          rotate_left
          · intro W hSw; (try dsimp only at hSw); have c1 := hSw.2.1; have c2 := hSw.2.2.1; have c3 := hSw.2.2.2; clear hSw; first | (go_simp; done) | (go_simp; with_reducible rfl)
          try simp only [Act.put, List.setIfInBounds_toArray, List.set_cons_zero, List.set_cons_succ]
          refine wpAnyD_take (i := 9) (oi := ⟨_, _, _, _, _, _⟩) (v := ?_) rfl (by kernel_rfl) (by kernel_rfl) (by kernel_rfl) (by kernel_rfl) (fun _ _ _ h => h) (fun W m h => ⟨h.1.beside (drewn _ W m), h.2⟩) (Or.inl (Or.inl ⟨by rfl, ?_⟩)) hSd ?_
          rotate_left
          · intro W hSw; (try dsimp only at hSw); have c1 := hSw.2.1; have c2 := hSw.2.2.1; have c3 := hSw.2.2.2; clear hSw; first | (go_simp; done) | (go_simp; with_reducible rfl)
          try simp only [Act.put, List.setIfInBounds_toArray, List.set_cons_zero, List.set_cons_succ]
          refine wpAnyD_take (i := 10) (oi := ⟨_, _, _, _, _, _⟩) (v := ?_) rfl (by kernel_rfl) (by kernel_rfl) (by kernel_rfl) (by kernel_rfl) (fun _ _ _ h => h) (fun W m h => ⟨h.1.beside (drewn _ W m), h.2⟩) (Or.inl (Or.inl ⟨by rfl, ?_⟩)) hSd ?_
          rotate_left
          · intro W hSw; (try dsimp only at hSw); have c1 := hSw.2.1; have c2 := hSw.2.2.1; have c3 := hSw.2.2.2; clear hSw; first | (go_simp; done) | (go_simp; with_reducible rfl)
          try simp only [Act.put, List.setIfInBounds_toArray, List.set_cons_zero, List.set_cons_succ]
          refine wpAnyD_take (i := 11) (oi := ⟨_, _, _, _, _, _⟩) (v := ?_) rfl (by kernel_rfl) (by kernel_rfl) (by kernel_rfl) (by kernel_rfl) (fun _ _ _ h => h) (fun W m h => ⟨h.1.beside (drewn _ W m), h.2⟩) (Or.inl (Or.inl ⟨by rfl, ?_⟩)) hSd ?_
          rotate_left
          · intro W hSw; (try dsimp only at hSw); have c1 := hSw.2.1; have c2 := hSw.2.2.1; have c3 := hSw.2.2.2; clear hSw; first | (go_simp; done) | (go_simp; with_reducible rfl)
          try simp only [Act.put, List.setIfInBounds_toArray, List.set_cons_zero, List.set_cons_succ]
          refine wpAnyD_take (i := 12) (oi := ⟨_, _, _, _, _, _⟩) (v := ?_) rfl (by kernel_rfl) (by kernel_rfl) (by kernel_rfl) (by kernel_rfl) (fun _ _ _ h => h) (fun W m h => ⟨h.1.beside (drewn _ W m), h.2⟩) (Or.inl (Or.inl ⟨by rfl, ?_⟩)) hSd ?_
          rotate_left
          · intro W hSw; (try dsimp only at hSw); have c1 := hSw.2.1; have c2 := hSw.2.2.1; have c3 := hSw.2.2.2; clear hSw; first | (go_simp; done) | (go_simp; with_reducible rfl)
          try simp only [Act.put, List.setIfInBounds_toArray, List.set_cons_zero, List.set_cons_succ]
          refine wpAnyD_take (i := 13) (oi := ⟨_, _, _, _, _, _⟩) (v := ?_) rfl (by kernel_rfl) (by kernel_rfl) (by kernel_rfl) (by kernel_rfl) (fun _ _ _ h => h) (fun W m h => ⟨h.1.beside (drewn _ W m), h.2⟩) (Or.inl (Or.inl ⟨by rfl, ?_⟩)) hSd ?_
          rotate_left
          · intro W hSw; (try dsimp only at hSw); have c1 := hSw.2.1; have c2 := hSw.2.2.1; have c3 := hSw.2.2.2; clear hSw; first | (go_simp; done) | (go_simp; with_reducible rfl)
          try simp only [Act.put, List.setIfInBounds_toArray, List.set_cons_zero, List.set_cons_succ]
          refine wpAnyD_take (i := 14) (oi := ⟨_, _, _, _, _, _⟩) (v := ?_) rfl (by kernel_rfl) (by kernel_rfl) (by kernel_rfl) (by kernel_rfl) (fun _ _ _ h => h) (fun W m h => ⟨h.1.beside (drewn _ W m), h.2⟩) (Or.inl (Or.inl ⟨by rfl, ?_⟩)) hSd ?_
          rotate_left
          · intro W hSw; (try dsimp only at hSw); have c1 := hSw.2.1; have c2 := hSw.2.2.1; have c3 := hSw.2.2.2; clear hSw; first | (go_simp; done) | (go_simp; with_reducible rfl)
          try simp only [Act.put, List.setIfInBounds_toArray, List.set_cons_zero, List.set_cons_succ]
          refine wpAnyD_take (i := 15) (oi := ⟨_, _, _, _, _, _⟩) (v := ?_) rfl (by kernel_rfl) (by kernel_rfl) (by kernel_rfl) (by kernel_rfl) (fun _ _ _ h => h) (fun W m h => ⟨h.1.beside (drewn _ W m), h.2⟩) (Or.inl (Or.inl ⟨by rfl, ?_⟩)) hSd ?_
          rotate_left
          · intro W hSw; (try dsimp only at hSw); have c1 := hSw.2.1; have c2 := hSw.2.2.1; have c3 := hSw.2.2.2; clear hSw; first | (go_simp; done) | (go_simp; with_reducible rfl)
          try simp only [Act.put, List.setIfInBounds_toArray, List.set_cons_zero, List.set_cons_succ]
          have GE := Lib.hid hSd.1.below
          clear hSd
          refine wpAnyD_last (by kernel_rfl) (fun nd => ?_)
          refine wpOp_one rfl (by rfl) ?_
          have GF : Hid (Below w.heap.size w (w6.drewN nd)) := Lib.hid (GE.out.trans (drewn _ w6 nd))
          generalize w6.drewN nd = w7 at *
          clear GE
          go_simp
          go_wp2_with fail
          go_ret
          have hw1 : IntKind.i64.wrap ((b1 : Int) + b2) = (b1 : Int) + b2 := IntWalk.i64_in _ (by omega)
          have hw2 : IntKind.i64.wrap ((b1 : Int) + b2 + b3) = (b1 : Int) + b2 + b3 := IntWalk.i64_in _ (by omega)
          refine ⟨?_, GF.out⟩
          show Ending.returned (Value.bool ((b1 : Int) + b2 + b3 == IntKind.i64.wrap (IntKind.i64.wrap ((b1 : Int) + b2) + b3))) = Ending.returned (Value.bool true)
          rw [hw1, hw2, beq_self_eq_true]
end Go.Proofs.YtigiaejhjpjcmaaDoor
