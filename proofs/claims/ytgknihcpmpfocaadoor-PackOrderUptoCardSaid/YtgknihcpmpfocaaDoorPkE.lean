/- The walk of scan, over any tell. -/
import Derived.Test.YtgknihcpmpfocaaDoorPkAD
import Derived.Test.YtgknihcpmpfocaaDoorVfKP
namespace Go.Proofs.YtgknihcpmpfocaaDoor
open Go.RowKit
attribute [local simp high] id_size id_zero

theorem scan_rest {b : List UInt8} {done todo : List (List UInt8)} (h : scanL b = done ++ todo) : scanL (b.drop (framesL done).length) = todo ∧ (framesL done).length ≤ b.length := by
  obtain ⟨h1, h2, h3⟩ := scan_split b
  have hs : framesL done ++ (framesL todo ++ b.drop (endL b)) = b := by
    rw [← List.append_assoc, ← framesL_append, ← h]; exact h2
  refine ⟨?_, by rw [← hs, List.length_append]; omega⟩
  have hd : b.drop (framesL done).length = framesL todo ++ b.drop (endL b) := by
    conv => lhs; rw [← hs]
    exact List.drop_left' rfl
  rw [hd, scanL_frames (fun s hs => h1 s (by rw [h]; exact List.mem_append_right _ hs)), scanL_none h3, List.append_nil]
theorem Env.far {w w' : World} {T : Nat → Prop} (h : Env w) (hf : Far T w w') (hT : ∀ k, T k → 2 ≤ k) : Env w' := h.below (Nat.le_refl 2) (hf.below hT h.big)
theorem Env.first2 {w : World} (h : Env w) : 2 ≤ w.heap.size := h.big
/-- What tell is told: the Sum and the place. -/
def atV (rec : List UInt8) (done : List (List UInt8)) : Array Value := #[.agg (bv (sumN rec)).toArray, .agg #[.int .i64 (((framesL done).length + 12 : Nat) : Int), .int .i64 (((framesL done).length + 12 + rec.length : Nat) : Int)]]
def ScanP (b : List UInt8) (J : List (List UInt8) → (Nat → Prop) → World → Prop) (T0 : Nat → Prop) (w : World) (e : Ending) (w' : World) : Prop :=
  e = .returned (.int .i64 (endL b : Int)) ∧ ∃ T', (∀ k, T' k → (T0 k ∨ w.heap.size ≤ k) ∧ k < w'.heap.size) ∧ J (scanL b) T' w' ∧ Far T0 w w'
set_option maxRecDepth 100000 in
set_option maxHeartbeats 4000000 in
theorem scan_any (S : Nat → Prop) (b : List UInt8) (v : Value) (w : World) (hb : BytesC S w v b) (hS : ∀ k, S k → k < w.heap.size) (hE : Env w) (hl : b.length ≤ 1073741824)
    (K : Nat) (bnd cap : Array Value) (J : List (List UInt8) → (Nat → Prop) → World → Prop) (T0 : Nat → Prop) (hT0 : ∀ k, T0 k → k < w.heap.size ∧ ¬ S k ∧ 2 ≤ k)
    (eK : ∀ args w, (callFunc K args).run Tryd.prog w = .ok (.enter K args) w)
    (hJk : ∀ done T W W', J done T W → (∀ k, T k → W'.heap[k]? = W.heap[k]?) → W.heap.size ≤ W'.heap.size → J done T W')
    (h0 : J [] T0 w)
    (hV : ∀ done T W rec todo, scanL b = done ++ rec :: todo → J done T W → (∀ k, T k → ¬ S k ∧ 2 ≤ k) → BytesC S W v b → (∀ k, S k → k < W.heap.size) → Env W →
      Calls Tryd.prog K (bnd ++ atV rec done ++ cap) W fun e W' => e = .returned (.tuple #[]) ∧ ∃ T', (∀ k, T' k → (T k ∨ W.heap.size ≤ k) ∧ k < W'.heap.size) ∧ J (done ++ [rec]) T' W' ∧ Far T W W') :
    Calls Tryd.prog 26 #[v, .func (.func K) bnd cap] w (ScanP b J T0 w) := by
  have HB := Lib.hid hb
  have HS := Lib.hid hS
  have HE := Lib.hid hE
  have HT := Lib.hid hT0
  have HJ := Lib.hid h0
  have HL := Lib.hid hl
  obtain ⟨a, ca, rfl⟩ := hb.shape
  clear hb hS hE hT0 h0 hl
  obtain ⟨n, hn⟩ : ∃ n, b.length = n := ⟨_, rfl⟩
  rw [hn]
  have HN := Lib.hid hn
  clear hn
  go_enter Tryd.func26, Tryd.ntmps26
  go_wp2_with fail
  go_loopw [5] (fun i wr => ∃ (done todo : List (List UInt8)) (T : Nat → Prop), scanL b = done ++ todo ∧ i = .int .i64 ((framesL done).length : Int) ∧ (∀ k, T k → (T0 k ∨ w.heap.size ≤ k) ∧ k < wr.heap.size) ∧ J done T wr ∧ Far T0 w wr) (fun i _ => b.length - (intOf i).toNat)
  case atStart => exact ⟨[], scanL b, T0, rfl, rfl, fun k hk => ⟨Or.inl hk, (HT.out k hk).1⟩, HJ.out, Far.refl _ _⟩
  case round =>
    obtain ⟨done, todo, T, hdt, rfl, hT, hJ, hF⟩ := hrel
    obtain ⟨e, he⟩ : ∃ e, e = (framesL done).length := ⟨_, rfl⟩
    rw [← he]
    have hse := scan_rest hdt
    rw [← he] at hse
    have HEQ := Lib.hid he
    have HDT := Lib.hid hdt
    have HTT := Lib.hid hT
    have HJJ := Lib.hid hJ
    have HFF := Lib.hid hF
    have hTok : Hid (∀ k, T k → ¬ S k ∧ 2 ≤ k) := Lib.hid (fun k hk => by
      rcases (hT k hk).1 with h | h
      · exact (HT.out k h).2
      · have h2 := HE.out.big
        exact ⟨fun hs => by have := HS.out k hs; omega, by omega⟩)
    have HBr := Lib.hid (HB.out.kept (S' := S) (w' := wr) (fun k hk => ⟨hk, hF.block k (HS.out k hk) (fun ht => (HT.out k ht).2.1 hk)⟩))
    have HEr := Lib.hid (HE.out.far hF (fun k hk => (HT.out k hk).2.2))
    have hszr := hF.size
    have HSE := Lib.hid hse
    have hen : e ≤ n := by have := HN.out; omega
    have HTL : Hid (∃ (v8 : Value), (∀ W, (Instr.sliceAt 22 (.slice a b.length ca) (some (.int .i64 (e : Int))) none none).run Tryd.prog W = .ok v8 W) ∧ BytesC S wr v8 (b.drop e)) := Lib.hid (by
      have hb := HBr.out
      have hnn := HN.out
      rcases hb with ⟨h1, h2⟩ | ⟨aa, cc, h1, h2⟩
      · have hn0 : n = 0 := by rw [← hnn, h2]; rfl
        have he0 : e = 0 := by omega
        rw [hnn, hn0] at h1 ⊢
        injection h1 with e1 e2 e3
        subst e1 e3
        subst he0
        refine ⟨.slice none 0 0, fun W => ?_, Or.inl ⟨rfl, by rw [h2]; rfl⟩⟩
        rw [run_sliceAt_slice W _ _ _ _ _ und_bytes, run_slice_l W _ _ _ _ und_bytes _ _ (by omega) (by omega), elem_bytes, Tryd.sizeOf5]
        simp [sliced, Result.andThen]
      · injection h1 with e1 e2 e3
        subst e1 e3
        obtain ⟨a', c', k1, k2⟩ := tail_run (S := S) (w := wr) (aa := aa) (q := b) (qc := ca) (n := e) (Or.inr ⟨aa, ca, rfl, h2⟩) (by omega)
        exact ⟨_, k1, k2⟩)
    obtain ⟨v8, hv8, hb8⟩ := HTL.out
    rw [HN.out] at hv8
    have HFI := Lib.hid (first_any S v8 (b.drop e) wr (fun k hk => by have := HS.out k hk; omega) hb8 HEr.out)
    clear hdt hT hJ hF hse he hb8 HTL
    go_wp2_with fail
    refine HFI.out.mono ?_
    rintro e1 w1 ⟨X, m, hX, rfl, hXm, hb1⟩
    have hn6 := IDAt.new w1
    have c6 := hn6.write (l := X) hX
    have zx : (bv X).length = n32 := by rw [bv_len, hX]; rfl
    have H6 := Lib.hid (hn6.put hX)
    have hb6 : Below w1.heap.size w1 ((w1.alloc (.cells (bv zeros).toArray 44)).setRow w1.heap.size (bv X).toArray) := below_setRow ((Below.refl w1.heap.size w1).alloc (Nat.le_refl _) _) (Nat.le_refl _) (bv X).toArray
    have hz6 : ((w1.alloc (.cells (bv zeros).toArray 44)).setRow w1.heap.size (bv X).toArray).heap.size = w1.heap.size + 1 := by simp [World.setRow]
    have hsz1 := hb1.size
    have B6 := Lib.hid (hb1.trans (hb6.mono hsz1))
    have HXM := Lib.hid hXm
    clear hn6 hb1 hb6 hXm
    cases hfn : firstN (b.drop e) with
    | none =>
      have HFN := Lib.hid hfn
      have hso : (none : Option Nat).isSome = false := rfl
      clear hfn
      go_wp2_with fail
      generalize (w1.alloc (.cells (bv zeros).toArray 44)).setRow w1.heap.size (bv X).toArray = w6 at *
      have htd : todo = [] := by rw [← HSE.out.1]; exact scanL_none HFN.out
      have hdd : scanL b = done := by rw [HDT.out, htd, List.append_nil]
      go_ret
      refine ⟨by unfold endL; rw [hdd, ← HEQ.out]; rfl, T, fun k hk => ⟨(HTT.out k hk).1, by have := (HTT.out k hk).2; omega⟩, ?_, HFF.out.trans ⟨B6.out.os, B6.out.tape, B6.out.output, B6.out.size, fun k hk _ => B6.out.block k hk⟩⟩
      rw [hdd]
      exact hJk done T wr w6 HJJ.out (fun k hk => B6.out.block k (HTT.out k hk).2) B6.out.size
    | some k =>
      have HFN := Lib.hid hfn
      have hso : (some k : Option Nat).isSome = true := rfl
      clear hfn
      go_upto_region 5 with fail
      generalize (w1.alloc (.cells (bv zeros).toArray 44)).setRow w1.heap.size (bv X).toArray = w6 at *
      generalize w1.heap.size = b6 at *
      have hfs := firstN_some HFN.out
      rw [List.length_drop] at hfs
      obtain ⟨hmk, hXk⟩ := HXM.out k HFN.out
      have hkn : e + 12 + m ≤ n := by have := HN.out; omega
      have HKL : Hid (n ≤ 1073741824) := Lib.hid (by have := HN.out; have := HL.out; omega)
      have hw1 : IntKind.i64.wrap ((e : Int) + 12) = (e : Int) + 12 := by have := HKL.out; rw [IntWalk.i64_in _ (by omega)]
      have hw2 : IntKind.i64.wrap ((e : Int) + 12 + (m : Int)) = (e : Int) + 12 + (m : Int) := by have := HKL.out; rw [IntWalk.i64_in _ (by omega)]
      have HMK := Lib.hid hmk
      have HXK := Lib.hid hXk
      clear hfs hmk hXk
      go_upto_region 6 with fail
      obtain ⟨rec, hrec⟩ : ∃ rec, rec = ((b.drop e).drop 12).take k := ⟨_, rfl⟩
      have hrl : rec.length = m := by rw [hrec, List.length_take, List.length_drop, List.length_drop, HN.out, ← HMK.out]; omega
      obtain ⟨todo', htd⟩ : ∃ todo', todo = rec :: todo' := ⟨_, by rw [← HSE.out.1, scanL_some HFN.out, ← hrec]⟩
      have HD2 := Lib.hid (show scanL b = done ++ rec :: todo' by rw [HDT.out, htd])
      have hX2 : X = sumN rec := by rw [HXK.out, ← hrec]
      have HAT : Hid (atV rec done = #[.agg (bv X).toArray, .agg #[.int .i64 ((e : Int) + 12), .int .i64 ((e : Int) + 12 + (m : Int))]]) := Lib.hid (by
        unfold atV
        rw [← hX2, ← HEQ.out, hrl]
        have e1 : ((e + 12 : Nat) : Int) = (e : Int) + 12 := by omega
        have e2 : ((e + 12 + m : Nat) : Int) = (e : Int) + 12 + (m : Int) := by omega
        rw [e1, e2])
      have hal := Below.heap_alloc w6 (.cells #[.int .i64 ((e : Int) + 12), .int .i64 ((e : Int) + 12 + (m : Int))] 62)
      have hnew := new_five w6 #[.int .i64 ((e : Int) + 12), .int .i64 ((e : Int) + 12 + (m : Int))] 62
      rw [hz6] at hnew
      have I9 := H6.out.kept (hal b6 (by omega))
      have c9 := I9.cells
      have hz9 : (w6.alloc (.cells #[.int .i64 ((e : Int) + 12), .int .i64 ((e : Int) + 12 + (m : Int))] 62)).heap.size = b6 + 2 := by simp [hz6]
      have B9 : Hid (Below wr.heap.size wr (w6.alloc (.cells #[.int .i64 ((e : Int) + 12), .int .i64 ((e : Int) + 12 + (m : Int))] 62))) := Lib.hid (B6.out.alloc B6.out.size _)
      clear hal hX2 htd hw1 hw2 hso
      generalize w6.alloc (.cells #[.int .i64 ((e : Int) + 12), .int .i64 ((e : Int) + 12 + (m : Int))] 62) = w9 at *
      have d0 : w9.cell? ⟨b6 + 1, 0, none⟩ = some (.int .i64 ((e : Int) + 12)) := (cell_of_row _ _ _ _ _ _ hnew).trans rfl
      have d1 : w9.cell? ⟨b6 + 1, 1, none⟩ = some (.int .i64 ((e : Int) + 12 + (m : Int))) := (cell_of_row _ _ _ _ _ _ hnew).trans rfl
      have HHN := Lib.hid hnew
      have hv9 := (hV done T w9 rec todo' HD2.out (hJk done T wr w9 HJJ.out (fun k hk => B9.out.block k (HTT.out k hk).2) B9.out.size) hTok.out (HBr.out.kept (fun k hk => ⟨hk, B9.out.block k (by have := HS.out k hk; omega)⟩)) (fun k hk => by have := HS.out k hk; have := B9.out.size; omega) (HEr.out.on B9.out))
      rw [HAT.out, Array.append_assoc] at hv9
      have HV9 := Lib.hid hv9
      have HRL := Lib.hid hrl
      clear hv9
      have I9' := Lib.hid I9
      clear I9 hnew hrec hrl
      go_wp2_with fail
      refine HV9.out.mono ?_
      rintro e1 w10 ⟨rfl, T', hT', hJ', hF'⟩
      have hb6r : wr.heap.size ≤ b6 := by omega
      have hk9 : w10.heap[b6 + 1]? = w9.heap[b6 + 1]? := hF'.block (b6 + 1) (by omega) (fun ht => by have := (HTT.out _ ht).2; omega)
      replace d0 := (World.cell?_of_block (w := w9) (a := ⟨b6 + 1, 0, none⟩) hk9).trans d0
      replace d1 := (World.cell?_of_block (w := w9) (a := ⟨b6 + 1, 1, none⟩) hk9).trans d1
      have HF10 := Lib.hid hF'
      have HJ10 := Lib.hid hJ'
      have HT10 := Lib.hid hT'
      have hz10 := hF'.size
      clear hT' hJ' hF' hk9 c9
      go_wp2_with fail
      go_roundw
      case rel =>
        refine ⟨done ++ [rec], todo', T', by rw [HD2.out, List.append_assoc]; rfl, ?_, fun k hk => ⟨?_, (HT10.out k hk).2⟩, HJ10.out, ?_⟩
        · have hfl : (framesL (done ++ [rec])).length = e + 12 + m := by
            rw [framesL_append, List.length_append, ← HEQ.out]
            have e1 : framesL [rec] = frameL rec := by unfold framesL; simp
            rw [e1, frameL_len, HRL.out]; omega
          rw [hfl]
          go_num
        · rcases (HT10.out k hk).1 with h | h
          · exact (HTT.out k h).1
          · exact Or.inr (by omega)
        · have hA : Far T0 wr w9 := ⟨B9.out.os, B9.out.tape, B9.out.output, B9.out.size, fun k hk _ => B9.out.block k hk⟩
          have h1 := HFF.out.trans hA
          have h2 := HF10.out
          exact ⟨h2.os.trans h1.os, h2.tape.trans h1.tape, h2.output.trans h1.output, Nat.le_trans h1.size h2.size, fun k hk hn => (h2.block k (Nat.lt_of_lt_of_le hk h1.size) (fun ht => by
            rcases (HTT.out k ht).1 with h | h
            · exact hn h
            · omega)).trans (h1.block k hk hn)⟩
      case measure =>
        have := HN.out
        simp only [intOf]
        omega
end Go.Proofs.YtgknihcpmpfocaaDoor
