/- Ids in memory: loads and stores of 32 bytes at once; the walk of the reference's Parse. -/
import Derived.Test.YtplbcncbljcfmaaDoorShaB
import Derived.Deep.MidRow
import Derived.Laws.Tables
import Derived.Laws.CopyRow
import Derived.Laws.CopyOwn
import Derived.Laws.ResultCell
namespace Go.Proofs.YtplbcncbljcfmaaDoor
open Go.RowKit

theorem Tryd.under25' : Tryd.prog.underlying 25 = some (.array 32 5) := by kernel_rfl
theorem Tryd.size25 : (Tryd.prog.info? 25).map (·.size) = some 32 := by kernel_rfl
/-- Block b holds the id l. -/
structure IDAt (w : World) (b : Nat) (l : List UInt8) : Prop where
  len : l.length = 32
  blk : w.heap[b]? = some (.cells (bv l).toArray 25 (0, 0))
theorem bv_size {l : List UInt8} (h : l.length = 32) : (bv l).toArray.size = 32 := by simp [bv_len, h]
theorem bv_all (l : List UInt8) : (bv l).toArray.all (·.oneCell') = true := by
  rw [Array.all_eq_true_iff_forall_mem]
  intro u hu
  exact bv_one l u (by simpa using hu)
theorem IDAt.load {w : World} {b : Nat} {l : List UInt8} (h : IDAt w b l) : (Instr.loadAt 25 (.pointer (some ⟨b, 0, none⟩))).run Tryd.prog w = .ok (.agg (bv l).toArray) w := by
  have := run_loadVar_row (P := Tryd.prog) w b 25 25 (bv l).toArray (0, 0) _ h.blk Tryd.under25' rfl (by rw [bv_size h.len]; exact Tryd.size25)
  simp only [Instr.loadAt, Instr.sureAddr, Sem.run_bind, Sem.run_pure, Result.andThen_ok, this]
theorem IDAt.store {w : World} {b : Nat} {old l : List UInt8} (h : IDAt w b old) (hl : l.length = 32) : (Instr.storeAt 25 (.pointer (some ⟨b, 0, none⟩)) (.agg (bv l).toArray)).run Tryd.prog w = .ok () (w.setRow b (bv l).toArray) := by
  have := run_storeVar_row (P := Tryd.prog) w b 25 25 (bv old).toArray (bv l).toArray h.blk (by rw [bv_size hl]; exact Tryd.size25) (by rw [bv_size h.len, bv_size hl]) (bv_all l)
  simp only [Instr.storeAt, Instr.sureAddr, Sem.run_bind, Sem.run_pure, Result.andThen_ok, this]
theorem IDAt.put {w : World} {b : Nat} {old l : List UInt8} (h : IDAt w b old) (hl : l.length = 32) : IDAt (w.setRow b (bv l).toArray) b l := ⟨hl, setRow_heap w b _ _ _ _ h.blk⟩
theorem IDAt.cell {w : World} {b : Nat} {l : List UInt8} (h : IDAt w b l) (k : Nat) (hk : k < l.length) : w.cell? ⟨b, k, none⟩ = some (.int .u8 (l[k].toNat : Nat)) := (cell_of_row _ _ _ _ _ _ h.blk).trans (bv_at hk)
theorem IDAt.kept {w w' : World} {b : Nat} {l : List UInt8} (h : IDAt w b l) (hk : w'.heap[b]? = w.heap[b]?) : IDAt w' b l := ⟨h.len, hk.trans h.blk⟩
theorem IDAt.free {w : World} {b : Nat} {l : List UInt8} (h : IDAt w b l) (k : Nat) : w.frozen? ⟨b, k, none⟩ = false := by unfold World.frozen?; rw [h.blk]; simp
theorem IDAt.set {w : World} {b : Nat} {l : List UInt8} (h : IDAt w b l) (k n : Nat) (hn : n < 256) : IDAt (w.setCell ⟨b, k, none⟩ (.int .u8 (n : Int))) b (l.set k (UInt8.ofNat n)) := by
  refine ⟨by rw [List.length_set]; exact h.len, ?_⟩
  rw [heap_setCell_same w b k _ _ _ h.blk, ← bv_set l k n hn]
  simp
def zeros : List UInt8 := List.replicate 32 0
theorem zeros_lit : (bv zeros).toArray = #[.int .u8 0, .int .u8 0, .int .u8 0, .int .u8 0, .int .u8 0, .int .u8 0, .int .u8 0, .int .u8 0, .int .u8 0, .int .u8 0, .int .u8 0, .int .u8 0, .int .u8 0, .int .u8 0, .int .u8 0, .int .u8 0, .int .u8 0, .int .u8 0, .int .u8 0, .int .u8 0, .int .u8 0, .int .u8 0, .int .u8 0, .int .u8 0, .int .u8 0, .int .u8 0, .int .u8 0, .int .u8 0, .int .u8 0, .int .u8 0, .int .u8 0, .int .u8 0] := rfl
theorem IDAt.new (w : World) : IDAt (w.alloc (.cells (bv zeros).toArray 25)) w.heap.size zeros := ⟨rfl, new_five w _ _⟩
def n32 : Nat := 32
/-- As a walk leaves them, the size of an id shut. -/
theorem IDAt.cells {w : World} {b : Nat} {l : List UInt8} (h : IDAt w b l) : (loadCellsFrom ⟨b, 0, none⟩ 0 n32 #[]).run Tryd.prog w = .ok (bv l).toArray w := by
  have := run_loadCells_list (P := Tryd.prog) w ⟨b, 0, none⟩ (bv l) (fun j v hv => by
    rw [Addr.add_mid, cell_of_row w b _ _ _ _ h.blk]
    simpa using hv)
  have e : (bv l).length = n32 := by rw [bv_len, h.len]; rfl
  rw [e] at this
  simpa [loadCells] using this
theorem IDAt.write {w : World} {b : Nat} {old l : List UInt8} (h : IDAt w b old) (hl : l.length = 32) : (storeCells ⟨b, 0, none⟩ (bv l)).run Tryd.prog w = .ok () (w.setRow b (bv l).toArray) := by
  have := run_storeCells_from (P := Tryd.prog) b 25 (bv l) 0 (bv old).toArray w h.blk (by rw [bv_size h.len, bv_len, hl]) (bv_one l)
  simpa using this
theorem id_size (w : World) : (sizeOf 25).run Tryd.prog w = .ok n32 w := by rw [Tryd.sizeOf25]; rfl
theorem id_agg (w : World) : (isAgg 25).run Tryd.prog w = .ok true w := by rw [Tryd.isAgg25]
theorem id_zero (w : World) : (zeroValue 25).run Tryd.prog w = .ok (.agg (bv zeros).toArray) w := by rw [Tryd.zeroValue25]; rfl
theorem zeros_len : (bv zeros).length = n32 := rfl
attribute [local simp high] id_size id_zero
/-- The number of a digit's byte among the first k digits; -1: none. -/
def valAt (c : UInt8) : Nat → Int
  | 0 => -1
  | k + 1 => if (digit k).toNat = c.toNat then (k : Int) else valAt c k
theorem valAt_lt (c : UInt8) (k : Nat) : -1 ≤ valAt c k ∧ valAt c k < (k : Int) ∨ k = 0 ∧ valAt c k = -1 := by
  induction k with
  | zero => right; exact ⟨rfl, rfl⟩
  | succ k ih => left; unfold valAt; split <;> omega
def val (c : UInt8) : Int := valAt c 16
theorem val_lt (c : UInt8) : -1 ≤ val c ∧ val c < 16 := by
  have := valAt_lt c 16
  unfold val; omega
/-- The id behind i digits. -/
def outAt (s : List UInt8) : Nat → List UInt8
  | 0 => zeros
  | i + 1 => (outAt s i).set (i / 2) (UInt8.ofNat (((((outAt s i).getD (i / 2) 0).toNat : Int) * 16 + val (s.getD i 0)) % 256).toNat)
theorem outAt_len (s : List UInt8) (i : Nat) : (outAt s i).length = 32 := by
  induction i with
  | zero => rfl
  | succ i ih => unfold outAt; rw [List.length_set, ih]
/-- All of the first n bytes are digits. -/
def allDig (s : List UInt8) (n : Nat) : Prop := ∀ j, j < n → 0 ≤ val (s.getD j 0)
instance (s : List UInt8) (n : Nat) : Decidable (allDig s n) := inferInstanceAs (Decidable (∀ j, j < n → 0 ≤ val (s.getD j 0)))
def parseN (s : List UInt8) : List UInt8 × Nat := if s.length = 64 ∧ allDig s 64 then (outAt s 64, 0) else (zeros, 30)
theorem index16 (w : World) (q : Nat) (hq : q < 16) : (Instr.index 9 (.string ⟨#[48, 49, 50, 51, 52, 53, 54, 55, 56, 57, 97, 98, 99, 100, 101, 102]⟩) (.int .i64 (q : Int))).run Tryd.prog w = .ok (.int .u8 ((digit q).toNat : Nat)) w := by
  have h0 : (⟨#[48, 49, 50, 51, 52, 53, 54, 55, 56, 57, 97, 98, 99, 100, 101, 102]⟩ : ByteArray).size = 16 := rfl
  rw [run_index_string _ _ _ _ _ (by kernel_rfl), dif_pos (by rw [h0]; omega)]
  have key : ∀ q (h : q < 16), ((⟨#[48, 49, 50, 51, 52, 53, 54, 55, 56, 57, 97, 98, 99, 100, 101, 102]⟩ : ByteArray)[q]'h).toNat = (digit q).toNat := by decide
  have e : (q : Int).toNat = q := by omega
  simp only [e, key q hq]
theorem indexS (w : World) (s : List UInt8) (i : Nat) (hi : i < s.length) : (Instr.index 9 (.string ⟨s.toArray⟩) (.int .i64 (i : Int))).run Tryd.prog w = .ok (.int .u8 ((s.getD i 0).toNat : Nat)) w := by
  have hs := idx_lt hi
  rw [run_index_string _ _ _ _ _ (by kernel_rfl), dif_pos (by omega)]
  have e : (i : Int).toNat = i := by omega
  simp only [e, idx_eq s i hi]
  rw [show s.getD i 0 = s[i] by simp [List.getD, List.getElem?_eq_getElem hi]]
theorem results_id {fn : Func} {p u : Tmp} (h : fn.results = #[.cell p 25, .tmp u]) (tmps : Array Value) (w : World) {b : Nat} {l : List UInt8} {x : Value} (hp : tmps.getD p undef = .pointer (some ⟨b, 0, none⟩)) (hx : tmps.getD u undef = x) (hI : IDAt w b l) :
    (results fn tmps).run Tryd.prog w = .ok (.tuple #[.agg (bv l).toArray, x]) w := by
  have := run_loadVar_row (P := Tryd.prog) w b 25 25 (bv l).toArray (0, 0) _ hI.blk Tryd.under25' rfl (by rw [bv_size hI.len]; exact Tryd.size25)
  rw [results_cell_tmp h, hp, hx]
  simp [asAddr, this]
set_option maxHeartbeats 1000000 in
theorem rparse_any (s : List UInt8) (w : World) : Calls Tryd.prog 19 #[.string ⟨s.toArray⟩] w fun e w' => e = .returned (.tuple #[.agg (bv (parseN s).1).toArray, .int .i64 ((parseN s).2 : Nat)]) ∧ Below w.heap.size w w' := by
  have zl := zeros_len
  have i1 := IDAt.new w
  have i2 := IDAt.new (w.alloc (.cells (bv zeros).toArray 25))
  have hb2 := ((Below.refl w.heap.size w).alloc (Nat.le_refl _) (.cells (bv zeros).toArray 25)).alloc (by simp) (.cells (bv zeros).toArray 25)
  rw [show (w.alloc (.cells (bv zeros).toArray 25)).heap.size = w.heap.size + 1 by simp] at i2
  replace i1 := i1.kept (w' := (w.alloc (.cells (bv zeros).toArray 25)).alloc (.cells (bv zeros).toArray 25)) (Below.heap_alloc _ _ _ (by simp))
  have c1 := i2.write (l := zeros) rfl
  rw [setRow_self _ _ _ _ _ i2.blk] at c1
  have hsz : ((w.alloc (.cells (bv zeros).toArray 25)).alloc (.cells (bv zeros).toArray 25)).heap.size = w.heap.size + 2 := by simp
  have I1 := Lib.hid i1
  have I2 := Lib.hid i2
  have HB := Lib.hid hb2
  have HZ := Lib.hid hsz
  clear i1 i2 hb2 hsz
  go_enter Tryd.func19, Tryd.ntmps19
  by_cases hl : s.length = 64
  · have HL := Lib.hid hl
    have hne : ((s.length : Int) != 64) = false := by simp [hl]
    clear hl
    go_wp2_with fail
    clear c1 hne zl
    generalize (w.alloc (Obj.cells (bv zeros).toArray 25)).alloc (Obj.cells (bv zeros).toArray 25) = w2 at *
    go_loopw [5] (fun i wr => ∃ j : Nat, j ≤ 64 ∧ i = .int .i64 j ∧ allDig s j ∧ IDAt wr w.heap.size zeros ∧ IDAt wr (w.heap.size + 1) (outAt s j) ∧ Below w.heap.size w wr) (fun i _ => 64 - (intOf i).toNat)
    case atStart => exact ⟨0, Nat.zero_le _, rfl, fun j hj => absurd hj (by omega), I1.out, I2.out, HB.out⟩
    case round =>
      obtain ⟨j, hj, rfl, had, hi1, hi2, hbw⟩ := hrel
      have J1 := Lib.hid hi1
      have J2 := Lib.hid hi2
      have JB := Lib.hid hbw
      have HAD := Lib.hid had
      clear hi1 hi2 hbw had
      by_cases hlt : j < 64
      · have hjs : j < s.length := by rw [HL.out]; exact hlt
        have HIX : Hid (∀ w, (Instr.index 9 (.string ⟨s.toArray⟩) (.int .i64 (j : Int))).run Tryd.prog w = .ok (.int .u8 ((s.getD j 0).toNat : Nat)) w) := Lib.hid fun w => indexS w s j hjs
        have HBB : Hid (∃ b, b = s.getD j 0) := Lib.hid ⟨_, rfl⟩
        obtain ⟨b, hbb⟩ := HBB.out
        rw [← hbb] at HIX
        clear hjs HBB
        have HB1 := Lib.hid hbb
        clear hbb
        go_wp2_with fail
        go_loopw [6, 7] (fun at' k w3 => ∃ q n : Nat, q ≤ 16 ∧ k = .int .i64 q ∧ at' = .int .i64 (valAt b q) ∧ w3 = wr.drewN n) (fun _ k _ => 16 - (intOf k).toNat)
        case atStart => exact ⟨0, 0, Nat.zero_le _, rfl, rfl, rfl⟩
        case round =>
          obtain ⟨q, n, hq, rfl, rfl, rfl⟩ := hrel
          by_cases hq2 : q < 16
          · have hix := HIX.out
            have hdx := fun w => index16 w q hq2
            have HV1 : Hid ((digit q).toNat = b.toNat → (q : Int) = valAt b (q + 1)) := Lib.hid fun h => by rw [valAt, if_pos h]
            have HV2 : Hid (¬ (digit q).toNat = b.toNat → valAt b q = valAt b (q + 1)) := Lib.hid fun h => by rw [valAt, if_neg h]
            generalize valAt b q = v0 at *
            generalize (digit q).toNat = d at *
            generalize b.toNat = x at *
            by_cases hxd : d = x
            · subst hxd
              have HQ := Lib.hid (HV1.out rfl)
              clear HV1 HV2
              go_wp2_with fail
              go_quiet (fail)
              go_wp2_with fail
              go_roundw
              case rel => exact ⟨q + 1, _, by omega, by go_num, congrArg (Value.int .i64) HQ.out, rfl⟩
              case measure => simp [intOf]; omega
            · have HQ := Lib.hid (HV2.out hxd)
              have hne : ((x : Int) == (d : Int)) = false := by rw [beq_eq_false_iff_ne]; omega
              clear HV1 HV2 hxd
              go_wp2_with fail
              go_quiet (fail)
              go_wp2_with fail
              go_roundw
              case rel => exact ⟨q + 1, _, by omega, by go_num, congrArg (Value.int .i64) HQ.out, rfl⟩
              case measure => simp [intOf]; omega
          · have hqn : q = 16 := by omega
            subst hqn
            have k1 := J1.out.kept (w' := wr.drewN n) rfl
            have k2 := J2.out.kept (w' := wr.drewN n) rfl
            have kb : Below w.heap.size w (wr.drewN n) := JB.out.trans (below_drewN _ _ _)
            clear J1 J2 JB
            generalize wr.drewN n = w4 at *
            have K1 := Lib.hid k1
            have K2 := Lib.hid k2
            have KB := Lib.hid kb
            clear k1 k2 kb
            have hvl := val_lt b
            unfold val at hvl
            by_cases hneg : valAt b 16 < 0
            · have c3 := K1.out.write (l := zeros) rfl
              rw [setRow_self _ _ _ _ _ K1.out.blk] at c3
              go_wp2_with fail
              have hp : parseN s = (zeros, 30) := by
                unfold parseN
                rw [if_neg (fun h => ?_)]
                have := h.2 j hlt
                rw [← HB1.out] at this
                unfold val at this
                omega
              rw [hp]
              exact bodyPost_ret (results_id rfl _ _ rfl rfl K1.out) rfl ⟨rfl, KB.out⟩
            · have hc := K2.out.cell (j / 2) (by rw [outAt_len]; omega)
              have hf := K2.out.free (j / 2)
              have HX : Hid ((outAt s j)[j / 2]'(by rw [outAt_len]; omega) = (outAt s j).getD (j / 2) 0) := Lib.hid (by simp [List.getD, List.getElem?_eq_getElem (show j / 2 < (outAt s j).length by rw [outAt_len]; omega)])
              rw [HX.out] at hc
              have HO : Hid (outAt s (j + 1) = (outAt s j).set (j / 2) (UInt8.ofNat (((((outAt s j).getD (j / 2) 0).toNat : Int) * 16 + val (s.getD j 0)) % 256).toNat)) := Lib.hid rfl
              rw [← HB1.out] at HO
              unfold val at HO
              clear HX
              have hx8 : ((outAt s j).getD (j / 2) 0).toNat < 256 := UInt8.toNat_lt _
              generalize ((outAt s j).getD (j / 2) 0).toNat = x at *
              have HV2 : Hid (0 ≤ val b) := Lib.hid (by unfold val; omega)
              generalize valAt b 16 = v at *
              have HN : Hid (IntKind.u8.wrap ((x : Int) * 16 + v) = ((((x : Int) * 16 + v) % 256).toNat : Int)) := Lib.hid (by rw [IntKind.wrap_u8]; omega)
              have HE : Hid ((((x : Int) * 16 + v) % 256).toNat < 256 ∧ (((x : Int) * 16 + v) % 256) = ((((x : Int) * 16 + v) % 256).toNat : Int)) := Lib.hid ⟨by omega, by omega⟩
              go_wp2_with fail
              refine ⟨⟨j + 1, by omega, by go_num, ?_, K1.out.kept (heap_setCell_other _ _ _ _ (by simp)), ?_, KB.out.setCell (by simp) _⟩, by simp [intOf]; omega⟩
              · intro i hi
                by_cases hij : i = j
                · subst hij
                  rw [← HB1.out]
                  exact HV2.out
                · exact HAD.out i (by omega)
              · rw [HE.out.2, HO.out]
                exact K2.out.set _ _ HE.out.1
      · have hjn : j = 64 := by omega
        subst hjn
        have HP : Hid (parseN s = (outAt s 64, 0)) := Lib.hid (by unfold parseN; rw [if_pos ⟨HL.out, HAD.out⟩])
        have ol := outAt_len s 64
        generalize outAt s 64 = o at *
        have c2 := J2.out.cells
        have c3 := J1.out.write (l := o) ol
        have HI := Lib.hid (J1.out.put (l := o) ol)
        have HW := Lib.hid (below_setRow JB.out (Nat.le_refl _) (bv o).toArray)
        have hol : (bv o).length = n32 := by rw [bv_len, ol]; rfl
        clear ol
        go_wp2_with fail
        rw [HP.out]
        exact bodyPost_ret (results_id rfl _ _ rfl rfl HI.out) rfl ⟨rfl, HW.out⟩
  · have HL := Lib.hid hl
    have hne : ((s.length : Int) != 64) = true := by rw [bne_iff_ne]; omega
    clear hl
    have c2 := I2.out.cells
    have c3 := I1.out.write (l := zeros) rfl
    rw [setRow_self _ _ _ _ _ I1.out.blk] at c3
    go_wp2_with fail
    have hp : parseN s = (zeros, 30) := by unfold parseN; rw [if_neg (fun h => HL.out h.1)]
    rw [hp]
    exact bodyPost_ret (results_id rfl _ _ rfl rfl I1.out) rfl ⟨rfl, HB.out⟩
end Go.Proofs.YtplbcncbljcfmaaDoor
