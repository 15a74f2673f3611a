/- The laid tables; the walk of taken. -/
import Derived.Test.YteijekhmgedhoaaDoorShaJ
import Derived.Lib.LaidTab
import Derived.Deep.Cut
namespace Go.Proofs.YteijekhmgedhoaaDoor
open Go.RowKit
attribute [local simp high] st_zero b64_size b64_zero w64_size w64_zero

/-- The package's tables lie where the program's text lays them. -/
structure Env (w : World) : Prop where
  first : ∀ j, j < 8 → w.cell? ⟨0, j, none⟩ = some (.int .u32 (startL.getD j 0 : Nat))
  rounds : ∀ j, j < 64 → w.cell? ⟨1, j, none⟩ = some (.int .u32 (partsL.getD j 0 : Nat))
  big : 2 ≤ w.heap.size
theorem Env.below {w w' : World} (h : Env w) {B : Nat} (hB : 2 ≤ B) (hb : Below B w w') : Env w' where
  first := fun j hj => by rw [hb.cell (p := ⟨0, j, none⟩) (by show 0 < B; omega)]; exact h.first j hj
  rounds := fun j hj => by rw [hb.cell (p := ⟨1, j, none⟩) (by show 1 < B; omega)]; exact h.rounds j hj
  big := by have := h.big; have := hb.size; omega
theorem Env.on {w w' : World} (h : Env w) (hb : Below w.heap.size w w') : Env w' := h.below h.big hb
theorem quiet_left' {P : Program} {f : FuncId} {args : Array Value} {w : World} {n : Nat} {v : Value}
    (h : Calls P f args (w.drewN n) fun e w' => e = .returned v ∧ w.drewN n = w') : Calls P f args (w.drewN n) fun e w'' => e = .returned v ∧ ∃ m, w'' = w.drewN m :=
  h.mono fun _ _ ⟨he, hm⟩ => ⟨he, n, hm.symm⟩
theorem not_xor {e : Nat} (h : e < two32) : 4294967295 ^^^ e = 4294967295 - e := by
  apply Nat.eq_of_testBit_eq
  intro i
  have e1 : (4294967295 : Nat) = 2 ^ 32 - 1 := rfl
  have h' : e < 2 ^ 32 := h
  rw [Nat.testBit_xor, e1, Nat.testBit_two_pow_sub_one, show 2 ^ 32 - 1 - e = 2 ^ 32 - (e + 1) by omega, Nat.testBit_two_pow_sub_succ h']
  by_cases hi : i < 32
  · simp [hi]
  · have : e.testBit i = false := Nat.testBit_lt_two_pow (Nat.lt_of_lt_of_le h' (Nat.pow_le_pow_right (by omega) (by omega)))
    simp [hi, this]
def addL (xs vs : List Nat) : Nat → List Nat
  | 0 => xs
  | k + 1 => (addL xs vs k).set k (((addL xs vs k).getD k 0 + vs.getD k 0) % two32)
theorem addL_len (x : Eight) (vs : List Nat) (k : Nat) : (addL x.list vs k).length = 8 := by
  induction k with
  | zero => rfl
  | succ k ih => simp only [addL, List.length_set, ih]
theorem addL_all (x v : Eight) : addL x.list v.list 8 = (addE v x).list := by
  simp only [addL, Eight.list, addE, List.getD, List.set, List.getElem?_cons_zero, List.getElem?_cons_succ, Option.getD_some]
  simp only [Nat.add_comm]
theorem Tryd.under66' : Tryd.prog.underlying 66 = some (.array 8 64) := by kernel_rfl
theorem Tryd.size66 : (Tryd.prog.info? 66).map (·.size) = some 8 := by kernel_rfl
theorem eight_len (v : Eight) : (wv v.list).length = 8 := rfl
set_option maxRecDepth 100000 in
set_option maxHeartbeats 4000000 in
theorem taken_any (v : Eight) (b : List UInt8) (w : World) (hv : ∀ x ∈ v.list, x < two32) (hb : b.length = 64) (hE : Env w) : Calls Tryd.prog 38 #[.agg (wv v.list).toArray, .agg (bv b).toArray] w fun e w' => e = .returned (.agg (wv (blockN b 0 v).list).toArray) ∧ Below w.heap.size w w' := by
  have HV := Lib.hid hv
  have HL := Lib.hid hb
  have HE := Lib.hid hE
  have HSP := Lib.hid (fun w => spread_any b w hb)
  have hr1 := RowAt.new w 66 (wv v.list)
  have hr2 := RowAt.new (w.alloc (.cells (wv v.list).toArray 66)) 67 (bv b)
  have hr4 := RowAt.new ((w.alloc (.cells (wv v.list).toArray 66)).alloc (.cells (bv b).toArray 67)) 66 (wv zeros8)
  have hbw := (((Below.refl w.heap.size w).alloc (Nat.le_refl _) (.cells (wv v.list).toArray 66)).alloc (by simp) (.cells (bv b).toArray 67)).alloc (by simp; omega) (.cells (wv zeros8).toArray 66)
  replace hr1 := (hr1.kept (Below.heap_alloc _ (.cells (bv b).toArray 67) _ hr1.lt))
  replace hr1 := (hr1.kept (Below.heap_alloc _ (.cells (wv zeros8).toArray 66) _ hr1.lt))
  replace hr2 := (hr2.kept (Below.heap_alloc _ (.cells (wv zeros8).toArray 66) _ hr2.lt))
  simp only [World.size_alloc] at hr2 hr4
  have c2 := hr2.cells (n := n64) (by rw [bv_len, hb]; rfl)
  have HR1 := Lib.hid hr1
  have HR4 := Lib.hid hr4
  have HBW := Lib.hid hbw
  clear hv hb hE hr1 hr2 hr4 hbw
  go_enter Tryd.func38, Tryd.ntmps38
  go_wp2_with fail
  generalize ((w.alloc (.cells (wv v.list).toArray 66)).alloc (.cells (bv b).toArray 67)).alloc (.cells (wv zeros8).toArray 66) = w3 at *
  obtain ⟨b1, hb1⟩ : ∃ b1, b1 = w.heap.size := ⟨_, rfl⟩
  obtain ⟨b4, hb4⟩ : ∃ b4, b4 = w.heap.size + 1 + 1 := ⟨_, rfl⟩
  have hbd : w.heap.size ≤ b1 ∧ b1 < b4 ∧ b4 < w3.heap.size := by have := HR4.out.lt; omega
  rw [← hb4] at HR4 ⊢
  rw [← hb1] at HR1
  rw [show (Value.pointer (some { block := w.heap.size, off := 0 }) : Value) = .pointer (some ⟨b1, 0, none⟩) by rw [hb1]]
  obtain ⟨hd1, hd2, hd3⟩ := hbd
  clear hb1 hb4 c2
  refine (HSP.out _).mono ?_
  rintro e w4 ⟨rfl, hb⟩
  have hs4 := hb.size
  have HX1 := Lib.hid (HR1.out.kept (hb.block b1 (by omega)))
  have HX4 := Lib.hid (HR4.out.kept (hb.block b4 (by omega)))
  have HBW4 := Lib.hid (HBW.out.trans (hb.mono HBW.out.size))
  have HLL := Lib.hid (schedL_len b 0 64)
  have HBN : Hid (blockN b 0 v = addE v (roundsN (schedL b 0 64) v 64)) := Lib.hid rfl
  have HLT := Lib.hid (schedL_lt b 0 64)
  generalize schedL b 0 64 = L at *
  have hn5 := RowAt.new w4 106 (wv zeros64)
  have c5 := hn5.write (vs := wv L) (by rw [wv_len, wv_len, HLL.out]; rfl) (wv_one L)
  have zl : (wv L).length = n64 := by rw [wv_len, HLL.out]; rfl
  have HN5 := Lib.hid (hn5.put (wv L))
  have HX1' := Lib.hid ((HX1.out.kept (Below.heap_alloc w4 (.cells (wv zeros64).toArray 106) b1 (by omega))).kept (setRow_other _ w4.heap.size b1 (wv L).toArray (by omega)))
  have HX4' := Lib.hid ((HX4.out.kept (Below.heap_alloc w4 (.cells (wv zeros64).toArray 106) b4 (by omega))).kept (setRow_other _ w4.heap.size b4 (wv L).toArray (by omega)))
  have HBW5 := Lib.hid (below_setRow (HBW4.out.alloc HBW4.out.size (.cells (wv zeros64).toArray 106)) HBW4.out.size (wv L).toArray)
  clear hb hn5 HX1 HX4 HR1 HR4 HBW
  go_upto_region 2 with fail
  clear c5
  obtain ⟨b5, hb5⟩ : ∃ b5, b5 = w4.heap.size := ⟨_, rfl⟩
  have hd5 : b4 < b5 := by omega
  rw [← hb5] at HN5 HX1' HX4' HBW5 ⊢
  clear hb5
  generalize (w4.alloc (.cells (wv zeros64).toArray 106)).setRow b5 (wv L).toArray = w5 at *
  have HE5 := Lib.hid (HE.out.on HBW5.out)
  have q0 : w5.cell? ⟨b1, 0, none⟩ = some (.int .u32 (v.a : Int)) := HX1'.out.cell 0
  have q1 : w5.cell? ⟨b1, 1, none⟩ = some (.int .u32 (v.b : Int)) := HX1'.out.cell 1
  have q2 : w5.cell? ⟨b1, 2, none⟩ = some (.int .u32 (v.c : Int)) := HX1'.out.cell 2
  have q3 : w5.cell? ⟨b1, 3, none⟩ = some (.int .u32 (v.d : Int)) := HX1'.out.cell 3
  have q4 : w5.cell? ⟨b1, 4, none⟩ = some (.int .u32 (v.e : Int)) := HX1'.out.cell 4
  have q5 : w5.cell? ⟨b1, 5, none⟩ = some (.int .u32 (v.f : Int)) := HX1'.out.cell 5
  have q6 : w5.cell? ⟨b1, 6, none⟩ = some (.int .u32 (v.g : Int)) := HX1'.out.cell 6
  have q7 : w5.cell? ⟨b1, 7, none⟩ = some (.int .u32 (v.h : Int)) := HX1'.out.cell 7
  go_wp2_with fail
  go_quiet (fail)
  clear q0 q1 q2 q3 q4 q5 q6 q7
  go_wp2_with fail
  go_loopw [6, 7, 8, 9, 10, 11, 12, 13, 37] (fun s6 s7 s8 s9 s10 s11 s12 s13 i wr => ∃ (k n : Nat) (x : Eight), x = roundsN L v k ∧ k ≤ 64 ∧ i = .int .i64 k ∧ s6 = .int .u32 x.a ∧ s7 = .int .u32 x.b ∧ s8 = .int .u32 x.c ∧ s9 = .int .u32 x.d ∧ s10 = .int .u32 x.e ∧ s11 = .int .u32 x.f ∧ s12 = .int .u32 x.g ∧ s13 = .int .u32 x.h ∧ (∀ y ∈ x.list, y < two32) ∧ wr = w5.drewN n) (fun _ _ _ _ _ _ _ _ i _ => 64 - (intOf i).toNat)
  case atStart => exact ⟨0, nq, v, rfl, by omega, rfl, rfl, rfl, rfl, rfl, rfl, rfl, rfl, rfl, HV.out, rfl⟩
  case round =>
    obtain ⟨k, n, x, hx, hk, rfl, rfl, rfl, rfl, rfl, rfl, rfl, rfl, rfl, hxl, hwr⟩ := hrel
    by_cases hlt : k < 64
    · obtain ⟨a, b', c, d, e, f, g, h⟩ := x
      have la : a < two32 := hxl a (by simp [Eight.list])
      have lb : b' < two32 := hxl b' (by simp [Eight.list])
      have lc : c < two32 := hxl c (by simp [Eight.list])
      have ld : d < two32 := hxl d (by simp [Eight.list])
      have le : e < two32 := hxl e (by simp [Eight.list])
      have lf : f < two32 := hxl f (by simp [Eight.list])
      have lg : g < two32 := hxl g (by simp [Eight.list])
      have lh : h < two32 := hxl h (by simp [Eight.list])
      have hg1 : wr.cell? ⟨1, k, none⟩ = some (.int .u32 (partsL.getD k 0 : Nat)) := by rw [hwr]; exact HE5.out.rounds k hlt
      have hg2 : wr.cell? ⟨b5, k, none⟩ = some (.int .u32 (L.getD k 0 : Nat)) := by rw [hwr]; exact (HN5.out.cell k).trans (wv_at (by rw [HLL.out]; exact hlt))
      have HT1 := Lib.hid (fun w => turned_any e 6 11 25 w le (by omega) (by omega) (by omega))
      have HT2 := Lib.hid (fun w => turned_any a 2 13 22 w la (by omega) (by omega) (by omega))
      have e32 : two32 = 2 ^ 32 := rfl
      have hsg : (if IntKind.u32.signed = true then (-1 : Int) else IntKind.u32.max) = 4294967295 := rfl
      have ln : 4294967295 - e < two32 := by unfold two32; omega
      have fn : bits .xor .u32 4294967295 (e : Int) = ((4294967295 - e : Nat) : Int) := by
        have h1 := bits_xor_u32_nat 4294967295 e (by unfold two32; omega) le
        rw [not_xor le] at h1
        exact h1
      have fa := bits_and_u32_nat e f le lf
      have fb := bits_and_u32_nat (4294967295 - e) g ln lg
      have fc := bits_xor_u32_nat (e &&& f) ((4294967295 - e) &&& g) (Nat.lt_of_le_of_lt Nat.and_le_left le) (Nat.lt_of_le_of_lt Nat.and_le_left ln)
      have ma := bits_and_u32_nat a b' la lb
      have mb := bits_and_u32_nat a c la lc
      have mc := bits_xor_u32_nat (a &&& b') (a &&& c) (Nat.lt_of_le_of_lt Nat.and_le_left la) (Nat.lt_of_le_of_lt Nat.and_le_left la)
      have md := bits_and_u32_nat b' c lb lc
      have me := bits_xor_u32_nat ((a &&& b') ^^^ (a &&& c)) (b' &&& c) (by rw [e32] at *; exact Nat.xor_lt_two_pow (Nat.lt_of_le_of_lt Nat.and_le_left la) (Nat.lt_of_le_of_lt Nat.and_le_left la)) (Nat.lt_of_le_of_lt Nat.and_le_left lb)
      have HRN : Hid (roundN ⟨a, b', c, d, e, f, g, h⟩ (partsL.getD k 0) (L.getD k 0) = ⟨(h + big1 e + chooseN e f g + partsL.getD k 0 + L.getD k 0 + (big0 a + mostN a b' c)) % two32, a, b', c, (d + (h + big1 e + chooseN e f g + partsL.getD k 0 + L.getD k 0)) % two32, e, f, g⟩) := Lib.hid rfl
      have HRS : Hid (roundsN L v (k + 1) = roundN (roundsN L v k) (partsL.getD k 0) (L.getD k 0)) := Lib.hid rfl
      rw [← hx] at HRS
      rw [HRN.out] at HRS
      rw [show (e &&& f) ^^^ ((4294967295 - e) &&& g) = chooseN e f g from rfl] at fc
      rw [show ((a &&& b') ^^^ (a &&& c)) ^^^ (b' &&& c) = mostN a b' c from rfl] at me
      rw [show ((rotN e 6 ^^^ rotN e 11) ^^^ rotN e 25) = big1 e from rfl] at HT1
      rw [show ((rotN a 2 ^^^ rotN a 13) ^^^ rotN a 22) = big0 a from rfl] at HT2
      generalize chooseN e f g = ch at *
      generalize mostN a b' c = mo at *
      generalize big1 e = B1 at *
      generalize big0 a = B0 at *
      generalize partsL.getD k 0 = K at *
      generalize L.getD k 0 = W at *
      generalize (a &&& b') ^^^ (a &&& c) = m3 at *
      generalize a &&& b' = m1 at *
      generalize a &&& c = m2 at *
      generalize b' &&& c = m4 at *
      generalize e &&& f = p1 at *
      generalize (4294967295 - e) &&& g = p2 at *
      generalize 4294967295 - e = ne at *
      have MA := Lib.hid ma
      have MB := Lib.hid mb
      have MC := Lib.hid mc
      have MD := Lib.hid md
      have ME := Lib.hid me
      have g10 : (0 : Int) ≤ (k : Int) := by omega
      have g11 : (k : Int) < 64 := by omega
      have HWR := Lib.hid hwr
      have LT := Lib.hid (And.intro la (And.intro lb (And.intro lc (And.intro le (And.intro lf lg)))))
      clear hwr hxl HRN hx ma mb mc md me e32 ln la lb lc ld le lf lg lh
      go_wp2_with fail
      go_quiet ((go_at_call 66; exact quiet_left' (HT1.out _)))
      clear fn fa fb fc hsg hg1 hg2
      go_wp2_with fail
      refine (HT2.out _).mono ?_
      rintro e' w' ⟨rfl, rfl⟩
      have ma := MA.out
      have mb := MB.out
      have mc := MC.out
      have md := MD.out
      have me := ME.out
      go_wp2_with fail
      go_roundw
      case rel =>
        obtain ⟨la, lb, lc, le, lf, lg⟩ := LT.out
        refine ⟨k + 1, n + nq, _, HRS.out.symm, by omega, by go_num, congrArg (Value.int .u32) (by show _ = (((h + B1 + ch + K + W + (B0 + mo)) % two32 : Nat) : Int); unfold two32; omega), rfl, rfl, rfl, congrArg (Value.int .u32) (by show _ = (((d + (h + B1 + ch + K + W)) % two32 : Nat) : Int); unfold two32; omega), rfl, rfl, rfl, ?_, by rw [HWR.out, World.drewN_drewN]⟩
        intro y hy
        have hm : ∀ z : Nat, z % two32 < two32 := fun z => Nat.mod_lt _ (by unfold two32; omega)
        simp only [Eight.list, List.mem_cons, List.not_mem_nil, or_false] at hy
        rcases hy with rfl | rfl | rfl | rfl | rfl | rfl | rfl | rfl
        · exact hm _
        · exact la
        · exact lb
        · exact lc
        · exact hm _
        · exact le
        · exact lf
        · exact lg
      case measure => simp [intOf]; omega
    · have hk64 : k = 64 := by omega
      have hd64 : decide ((k : Int) < 64) = false := by rw [hk64]; rfl
      have HXE : Hid (blockN b 0 v = addE v x) := Lib.hid (by rw [HBN.out, hx, hk64])
      have HXL := Lib.hid hxl
      have J1 := Lib.hid (show RowAt wr b1 66 (wv v.list) by rw [hwr]; exact HX1'.out.kept rfl)
      have J4 := Lib.hid (show RowAt wr b4 66 (wv zeros8) by rw [hwr]; exact HX4'.out.kept rfl)
      have JB := Lib.hid (show Below w.heap.size w wr by rw [hwr]; exact HBW5.out.trans (below_drewN _ _ _))
      have hn6 := RowAt.new wr 66 (wv zeros8)
      have J6 := Lib.hid hn6
      have hls : ((((((((wv zeros8).set 0 (.int .u32 (x.a : Int))).set 1 (.int .u32 (x.b : Int))).set 2 (.int .u32 (x.c : Int))).set 3 (.int .u32 (x.d : Int))).set 4 (.int .u32 (x.e : Int))).set 5 (.int .u32 (x.f : Int))).set 6 (.int .u32 (x.g : Int))).set 7 (.int .u32 (x.h : Int)) = wv x.list := rfl
      have c6 := hn6.write (vs := ((((((((wv zeros8).set 0 (.int .u32 (x.a : Int))).set 1 (.int .u32 (x.b : Int))).set 2 (.int .u32 (x.c : Int))).set 3 (.int .u32 (x.d : Int))).set 4 (.int .u32 (x.e : Int))).set 5 (.int .u32 (x.f : Int))).set 6 (.int .u32 (x.g : Int))).set 7 (.int .u32 (x.h : Int))) rfl (by rw [hls]; exact wv_one _)
      have J6' : Hid (RowAt ((wr.alloc (.cells (wv zeros8).toArray 66)).setRow wr.heap.size (((((((((wv zeros8).set 0 (.int .u32 (x.a : Int))).set 1 (.int .u32 (x.b : Int))).set 2 (.int .u32 (x.c : Int))).set 3 (.int .u32 (x.d : Int))).set 4 (.int .u32 (x.e : Int))).set 5 (.int .u32 (x.f : Int))).set 6 (.int .u32 (x.g : Int))).set 7 (.int .u32 (x.h : Int))).toArray) wr.heap.size 66 (wv x.list)) := Lib.hid (hn6.put _)
      have hk1 := fun q (hq : q < wr.heap.size) => (setRow_other (wr.alloc (.cells (wv zeros8).toArray 66)) wr.heap.size q (((((((((wv zeros8).set 0 (.int .u32 (x.a : Int))).set 1 (.int .u32 (x.b : Int))).set 2 (.int .u32 (x.c : Int))).set 3 (.int .u32 (x.d : Int))).set 4 (.int .u32 (x.e : Int))).set 5 (.int .u32 (x.f : Int))).set 6 (.int .u32 (x.g : Int))).set 7 (.int .u32 (x.h : Int))).toArray (by omega)).trans (Below.heap_alloc wr (.cells (wv zeros8).toArray 66) q hq)
      have J1' := Lib.hid (J1.out.kept (hk1 b1 J1.out.lt))
      have J4' := Lib.hid (J4.out.kept (hk1 b4 J4.out.lt))
      have JB' := Lib.hid (below_setRow (JB.out.alloc JB.out.size (.cells (wv zeros8).toArray 66)) JB.out.size (((((((((wv zeros8).set 0 (.int .u32 (x.a : Int))).set 1 (.int .u32 (x.b : Int))).set 2 (.int .u32 (x.c : Int))).set 3 (.int .u32 (x.d : Int))).set 4 (.int .u32 (x.e : Int))).set 5 (.int .u32 (x.f : Int))).set 6 (.int .u32 (x.g : Int))).set 7 (.int .u32 (x.h : Int))).toArray)
      have h4r := J4.out.lt
      clear hk1 hls
      clear hk64 hx hxl hwr hn6 hlt
      go_upto_region 11 with fail
      clear c6
      obtain ⟨b6, hb6⟩ : ∃ b6, b6 = wr.heap.size := ⟨_, rfl⟩
      rw [← hb6] at J6' J1' J4' JB' ⊢
      have hd6 : b4 < b6 := by omega
      clear hb6
      generalize (wr.alloc (.cells (wv zeros8).toArray 66)).setRow b6 (((((((((wv zeros8).set 0 (.int .u32 (x.a : Int))).set 1 (.int .u32 (x.b : Int))).set 2 (.int .u32 (x.c : Int))).set 3 (.int .u32 (x.d : Int))).set 4 (.int .u32 (x.e : Int))).set 5 (.int .u32 (x.f : Int))).set 6 (.int .u32 (x.g : Int))).set 7 (.int .u32 (x.h : Int))).toArray = w7 at *
      go_wp2_with fail
      go_loopw [97] (fun i wr => ∃ k : Nat, k ≤ 8 ∧ i = .int .i64 k ∧ RowAt wr b1 66 (wv v.list) ∧ RowAt wr b4 66 (wv zeros8) ∧ RowAt wr b6 66 (wv (addL x.list v.list k)) ∧ Below w.heap.size w wr) (fun i _ => 8 - (intOf i).toNat)
      case atStart => exact ⟨0, by omega, rfl, J1'.out, J4'.out, J6'.out, JB'.out⟩
      case round =>
        obtain ⟨k, hk, rfl, hr1, hr4, hr6, hbw⟩ := hrel
        by_cases hlt : k < 8
        · have c1 := (hr1.cell k).trans (wv_at (by show k < 8; exact hlt))
          have c6 := (hr6.cell k).trans (wv_at (by rw [addL_len]; exact hlt))
          have hst := (hr6.kept (w' := wr.drewN 1) rfl).set k (.int .u32 ((((addL x.list v.list k).getD k 0 + v.list.getD k 0) % two32 : Nat) : Int))
          rw [wv_set] at hst
          have HST : Hid (RowAt ((wr.drewN 1).setCell ⟨b6, k, none⟩ (.int .u32 ((((addL x.list v.list k).getD k 0 + v.list.getD k 0) % two32 : Nat) : Int))) b6 66 (wv (addL x.list v.list (k + 1)))) := Lib.hid hst
          have hfd : (wr.drewN 1).frozen? ⟨b6, k, none⟩ = false := hr6.free k
          have hcd : (wr.drewN 1).cell? ⟨b6, k, none⟩ = some (.int .u32 ((addL x.list v.list k).getD k 0 : Nat)) := c6
          have I1 := Lib.hid (hr1.kept (w' := wr.drewN 1) rfl)
          have I4 := Lib.hid (hr4.kept (w' := wr.drewN 1) rfl)
          have IB := Lib.hid (show Below w.heap.size w (wr.drewN 1) from hbw.trans (below_drewN _ _ _))
          generalize (addL x.list v.list k).getD k 0 = p at *
          generalize v.list.getD k 0 = q at *
          have hw : IntKind.u32.wrap ((p : Int) + (q : Int)) = (((p + q) % two32 : Nat) : Int) := by rw [wrap_u32]; unfold two32; omega
          generalize (p + q) % two32 = z at *
          have HFD := Lib.hid hfd
          have HCD := Lib.hid hcd
          have g10 : (0 : Int) ≤ (k : Int) := by omega
          have g11 : (k : Int) < 8 := by omega
          clear hr1 hr4 hr6 hbw hst hfd hcd
          go_wp2_with fail
          go_still_tail 8, (by kernel_rfl)
          change wpList _ _ _ _ _ (wr.drewN 1)
          clear c1 c6
          generalize wr.drewN 1 = wd at *
          have hcd := HCD.out
          have hfd := HFD.out
          clear hw
          go_wp2_with fail
          go_roundw
          case rel => exact ⟨k + 1, by omega, by go_num, I1.out.kept (heap_setCell_other _ _ _ _ (by simp; omega)), I4.out.kept (heap_setCell_other _ _ _ _ (by simp; omega)), HST.out, IB.out.setCell (by simp; omega) _⟩
          case measure => simp [intOf]; omega
        · have hk8 : k = 8 := by omega
          have hd8 : decide ((k : Int) < 8) = false := by rw [hk8]; rfl
          have hal : addL x.list v.list k = (addE v x).list := by rw [hk8]; exact addL_all x v
          rw [hal] at hr6
          have HFE : Hid ((addE v x).list = (blockN b 0 v).list) := Lib.hid (by rw [HXE.out])
          generalize addE v x = y at *
          have y0 : wr.cell? ⟨b6, 0, none⟩ = some (.int .u32 (y.a : Int)) := hr6.cell 0
          have y1 : wr.cell? ⟨b6, 1, none⟩ = some (.int .u32 (y.b : Int)) := hr6.cell 1
          have y2 : wr.cell? ⟨b6, 2, none⟩ = some (.int .u32 (y.c : Int)) := hr6.cell 2
          have y3 : wr.cell? ⟨b6, 3, none⟩ = some (.int .u32 (y.d : Int)) := hr6.cell 3
          have y4 : wr.cell? ⟨b6, 4, none⟩ = some (.int .u32 (y.e : Int)) := hr6.cell 4
          have y5 : wr.cell? ⟨b6, 5, none⟩ = some (.int .u32 (y.f : Int)) := hr6.cell 5
          have y6 : wr.cell? ⟨b6, 6, none⟩ = some (.int .u32 (y.g : Int)) := hr6.cell 6
          have y7 : wr.cell? ⟨b6, 7, none⟩ = some (.int .u32 (y.h : Int)) := hr6.cell 7
          have z0 : wr.cell? ⟨b4, 0, none⟩ = some (.int .u32 0) := hr4.cell 0
          have f0 : wr.frozen? ⟨b4, 0, none⟩ = false := hr4.free 0
          have z1 : wr.cell? ⟨b4, 1, none⟩ = some (.int .u32 0) := hr4.cell 1
          have f1 : wr.frozen? ⟨b4, 1, none⟩ = false := hr4.free 1
          have z2 : wr.cell? ⟨b4, 2, none⟩ = some (.int .u32 0) := hr4.cell 2
          have f2 : wr.frozen? ⟨b4, 2, none⟩ = false := hr4.free 2
          have z3 : wr.cell? ⟨b4, 3, none⟩ = some (.int .u32 0) := hr4.cell 3
          have f3 : wr.frozen? ⟨b4, 3, none⟩ = false := hr4.free 3
          have z4 : wr.cell? ⟨b4, 4, none⟩ = some (.int .u32 0) := hr4.cell 4
          have f4 : wr.frozen? ⟨b4, 4, none⟩ = false := hr4.free 4
          have z5 : wr.cell? ⟨b4, 5, none⟩ = some (.int .u32 0) := hr4.cell 5
          have f5 : wr.frozen? ⟨b4, 5, none⟩ = false := hr4.free 5
          have z6 : wr.cell? ⟨b4, 6, none⟩ = some (.int .u32 0) := hr4.cell 6
          have f6 : wr.frozen? ⟨b4, 6, none⟩ = false := hr4.free 6
          have z7 : wr.cell? ⟨b4, 7, none⟩ = some (.int .u32 0) := hr4.cell 7
          have f7 : wr.frozen? ⟨b4, 7, none⟩ = false := hr4.free 7
          have HP := Lib.hid (show RowAt _ b4 66 (wv y.list) from ((((((((hr4.set 0 (.int .u32 (y.a : Int))).set 1 (.int .u32 (y.b : Int))).set 2 (.int .u32 (y.c : Int))).set 3 (.int .u32 (y.d : Int))).set 4 (.int .u32 (y.e : Int))).set 5 (.int .u32 (y.f : Int))).set 6 (.int .u32 (y.g : Int))).set 7 (.int .u32 (y.h : Int))))
          have HBF := Lib.hid ((((((((hbw.setCell (show w.heap.size ≤ (⟨b4, 0, none⟩ : Addr).block by show w.heap.size ≤ b4; omega) (.int .u32 (y.a : Int))).setCell (show w.heap.size ≤ (⟨b4, 1, none⟩ : Addr).block by show w.heap.size ≤ b4; omega) (.int .u32 (y.b : Int))).setCell (show w.heap.size ≤ (⟨b4, 2, none⟩ : Addr).block by show w.heap.size ≤ b4; omega) (.int .u32 (y.c : Int))).setCell (show w.heap.size ≤ (⟨b4, 3, none⟩ : Addr).block by show w.heap.size ≤ b4; omega) (.int .u32 (y.d : Int))).setCell (show w.heap.size ≤ (⟨b4, 4, none⟩ : Addr).block by show w.heap.size ≤ b4; omega) (.int .u32 (y.e : Int))).setCell (show w.heap.size ≤ (⟨b4, 5, none⟩ : Addr).block by show w.heap.size ≤ b4; omega) (.int .u32 (y.f : Int))).setCell (show w.heap.size ≤ (⟨b4, 6, none⟩ : Addr).block by show w.heap.size ≤ b4; omega) (.int .u32 (y.g : Int))).setCell (show w.heap.size ≤ (⟨b4, 7, none⟩ : Addr).block by show w.heap.size ≤ b4; omega) (.int .u32 (y.h : Int)))
          clear hk8 hlt hal hr1 hr4 hr6 hbw
          go_wp2_with fail
          exact bodyPost_ret (v := .agg (wv y.list).toArray) (results_row rfl _ _ rfl Tryd.under66' Tryd.size66 HP.out) rfl ⟨by rw [HFE.out], HBF.out⟩
end Go.Proofs.YteijekhmgedhoaaDoor
