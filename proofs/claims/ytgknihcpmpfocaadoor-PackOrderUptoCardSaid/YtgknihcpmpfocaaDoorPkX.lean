/- The walk of the laws' twins. -/
import Derived.Test.YtgknihcpmpfocaaDoorPkW
import Derived.Deep.RegionHeld3
namespace Go.Proofs.YtgknihcpmpfocaaDoor
open Go.RowKit Go.Maps
attribute [local simp high] id_size id_zero

theorem any_stepC {K : Act → World → Prop} {a : Act} {w : World} (h : ∀ w1, w1 = w → K a w1) : K a w := h _ rfl
theorem chunks_one (w : World) (va : Value) (a : List UInt8) (ha : BytesC (fun k => k < w.heap.size) w va a) :
    ChunksC (fun k => k < w.heap.size + 1) (w.alloc (.cells #[va] 22)) (.slice (some ⟨w.heap.size, 0, none⟩) 1 1) [a] := by
  refine Or.inr ⟨_, 1, rfl, Nat.le_refl _, by unfold maxLen; simp, Or.inr (Nat.lt_succ_self _), fun j l hj => ?_⟩
  match j, hj with
  | 0, hj =>
    injection hj with hj; subst hj
    exact ⟨va, by rw [Addr.add_mid, cell_of_row _ _ _ _ _ _ (new_five w _ _)]; rfl, ha.kept (fun k hk => ⟨Nat.lt_succ_of_lt hk, Below.heap_alloc w _ k hk⟩)⟩
theorem chunks_head (a : Addr) (n c hi : Nat) (h1 : hi ≤ n) (h2 : n ≤ c) : ∀ W, (Instr.sliceAt 24 (.slice (some a) n c) none (some (.int .i64 (hi : Int))) none).run Tryd.prog W = .ok (.slice (some a) hi c) W := by
  have ht : Tryd.prog.underlying 24 = some (.slice (Tryd.prog.elem 24)) := by kernel_rfl
  have hs : ∀ W, (sizeOf (Tryd.prog.elem 24)).run Tryd.prog W = .ok 1 W := fun W => by kernel_rfl
  intro W
  rw [run_sliceAt_slice W _ _ _ _ _ ht, run_slice_h W _ _ _ _ ht _ _ (by omega) (by omega), hs]
  simp [sliced, Result.andThen]
  intro _
  simp [Addr.add]
/-- Unlike records have unlike sums. -/
def InjL (ls : List (List UInt8)) : Prop := ∀ x ∈ ls, ∀ y ∈ ls, sumN x = sumN y → x = y
def PairsTo (ls : List (List UInt8)) (n : Nat) : Prop := ∀ j k x y, k < j → j < n → ls[j]? = some x → ls[k]? = some y → sumN x = sumN y → x = y
theorem PairsTo.all {ls : List (List UInt8)} (h : PairsTo ls ls.length) : InjL ls := by
  intro x hx y hy hs
  obtain ⟨j, hj, e1⟩ := List.getElem_of_mem hx
  obtain ⟨k, hk, e2⟩ := List.getElem_of_mem hy
  have h1 : ls[j]? = some x := by rw [List.getElem?_eq_getElem hj, e1]
  have h2 : ls[k]? = some y := by rw [List.getElem?_eq_getElem hk, e2]
  rcases Nat.lt_trichotomy k j with h3 | h3 | h3
  · exact h j k x y h3 hj h1 h2 hs
  · subst h3; rw [h1] at h2; injection h2
  · exact (h k j y x h3 hk h2 h1 hs.symm).symm
def TwinsP (w : World) (ls : List (List UInt8)) (e : Ending) (w' : World) : Prop := ∃ t, e = .returned (.bool t) ∧ Below w.heap.size w w' ∧ (t = false → InjL ls)
set_option maxRecDepth 100000 in
set_option maxHeartbeats 8000000 in
theorem twins_any (S : Nat → Prop) (v : Value) (ls : List (List UInt8)) (w : World) (h : ChunksC S w v ls) (hS : ∀ k, S k → k < w.heap.size) (hE : Env w) (hl : ls.length ≤ 1048576) (hll : ∀ x ∈ ls, x.length ≤ 1048576) :
    Calls Tryd.prog 12 #[v] w (TwinsP w ls) := by
  have HE := Lib.hid hE
  have HS := Lib.hid hS
  have HC := Lib.hid h
  have HLL := Lib.hid hll
  obtain ⟨a, c, rfl⟩ : ∃ a c, v = .slice a ls.length c := by
    rcases h with ⟨h1, h2⟩ | ⟨x, cap, h1, _⟩
    · exact ⟨none, 0, by rw [h1, h2]; rfl⟩
    · exact ⟨some x, cap, h1⟩
  obtain ⟨n, hn⟩ : ∃ n, ls.length = n := ⟨_, rfl⟩
  rw [hn] at hl ⊢
  have HN := Lib.hid hn
  have HB := Lib.hid (Below.refl w.heap.size w)
  clear h hS hE hll hn
  go_enter Tryd.func12, Tryd.ntmps12
  go_wp2_with fail
  go_loopw [7] (fun s7 wr => ∃ i : Nat, i ≤ n ∧ s7 = .int .i64 (i : Int) ∧ Below w.heap.size w wr ∧ PairsTo ls i) (fun s7 _ => n - (intOf s7).toNat)
  case atStart => exact ⟨0, by omega, rfl, HB.out, fun j k x y _ h => by omega⟩
  case round =>
    obtain ⟨i, hi, rfl, hb, hp⟩ := hrel
    have B := Lib.hid hb
    have HP := Lib.hid hp
    clear hb hp
    by_cases hlt : i < n
    · have hd : decide ((i : Int) < (n : Int)) = true := decide_eq_true (by omega)
      have hd2 : decide (i < n) = true := decide_eq_true hlt
      have hat : ∃ xa : Addr, a = some xa ∧ n ≤ c ∧ S xa.block ∧ ∀ j l, ls[j]? = some l → ∃ vj, w.cell? (xa.add j) = some vj ∧ BytesC S w vj l := by
        have h := HC.out
        rw [HN.out] at h
        rcases h with ⟨_, h2⟩ | ⟨x, cap, h1, h2, _, h4, h5⟩
        · have := HN.out; rw [h2] at this; simp at this; omega
        · rw [HN.out] at h1 h2
          injection h1 with q1 q2 q3
          subst q3
          refine ⟨x, q1, h2, ?_, h5⟩
          rcases h4 with h4 | h4
          · have := HN.out; rw [h4] at this; simp at this; omega
          · exact h4
      obtain ⟨xa, rfl, hnc, hSx, hat⟩ := hat
      have HAT := Lib.hid hat
      have HSX := Lib.hid hSx
      have hsl := chunks_head xa n c i (by omega) hnc
      clear hat hSx hnc
      go_wp2_with fail
      go_loopw [14] (fun s14 wq => ∃ k : Nat, k ≤ i ∧ s14 = .int .i64 (k : Int) ∧ Below w.heap.size w wq ∧ Hid (∀ q x y, q < k → ls[i]? = some x → ls[q]? = some y → sumN x = sumN y → x = y)) (fun s14 _ => i - (intOf s14).toNat)
      case atStart => exact ⟨0, by omega, rfl, B.out, Lib.hid (fun q x y h => by omega)⟩
      case round =>
        obtain ⟨k, hk, rfl, hbq, HRT⟩ := hrel
        obtain ⟨wq, hwq⟩ : ∃ wq, wq = wr := ⟨_, rfl⟩
        rw [← hwq] at hbq ⊢
        clear hwq
        have BQ := Lib.hid hbq
        have hzq := hbq.size
        clear hbq
        by_cases hki : k < i
        · have hd3 : decide ((k : Int) < (i : Int)) = true := decide_eq_true (by omega)
          have hd4 : decide (k < i) = true := decide_eq_true hki
          obtain ⟨x, hx⟩ : ∃ x, ls[i]? = some x := ⟨_, List.getElem?_eq_getElem (by have := HN.out; omega)⟩
          obtain ⟨y, hy⟩ : ∃ y, ls[k]? = some y := ⟨_, List.getElem?_eq_getElem (by have := HN.out; omega)⟩
          obtain ⟨vx, ex, bx⟩ := HAT.out i x hx
          obtain ⟨vy, ey, by_⟩ := HAT.out k y hy
          obtain ⟨ax, cx, rfl⟩ := bx.shape
          obtain ⟨ay, cy, rfl⟩ := by_.shape
          have HLx : Hid (x.length ≤ 1048576) := Lib.hid (HLL.out x (List.mem_of_getElem? hx))
          have HLy : Hid (y.length ≤ 1048576) := Lib.hid (HLL.out y (List.mem_of_getElem? hy))
          have HFx : Hid ([x].flatten = x) := Lib.hid (by simp)
          have HFy : Hid ([y].flatten = y) := Lib.hid (by simp)
          obtain ⟨nx, hnx⟩ : ∃ nx, x.length = nx := ⟨_, rfl⟩
          obtain ⟨ny, hny⟩ : ∃ ny, y.length = ny := ⟨_, rfl⟩
          rw [hnx] at ex bx
          rw [hny] at ey by_
          have hall : ∀ W, Below wq.heap.size wq W → Below w.heap.size w W := fun W hW => BQ.out.trans (hW.mono hzq)
          have HBx : Hid (∀ W, Below wq.heap.size wq W → BytesC (fun q => q < W.heap.size) W (.slice ax nx cx) x) := Lib.hid (fun W hW => bx.kept (fun q hq => ⟨Nat.lt_of_lt_of_le (HS.out q hq) (hall W hW).size, (hall W hW).block q (HS.out q hq)⟩))
          have HBy : Hid (∀ W, Below wq.heap.size wq W → BytesC (fun q => q < W.heap.size) W (.slice ay ny cy) y) := Lib.hid (fun W hW => by_.kept (fun q hq => ⟨Nat.lt_of_lt_of_le (HS.out q hq) (hall W hW).size, (hall W hW).block q (HS.out q hq)⟩))
          have HEV : Hid (∀ W, Below wq.heap.size wq W → Env W) := Lib.hid (fun W hW => HE.out.on (hall W hW))
          have HG : Hid (∀ W, Below wq.heap.size wq W → W.cell? (xa.add i) = some (.slice ax nx cx) ∧ W.cell? (xa.add k) = some (.slice ay ny cy) ∧ (convert 22 9 (.slice ax nx cx)).run Tryd.prog W = .ok (.string ⟨x.toArray⟩) W ∧ (convert 22 9 (.slice ay ny cy)).run Tryd.prog W = .ok (.string ⟨y.toArray⟩) W) := Lib.hid (fun W hW => by
            have hb := (hall W hW).block xa.block (HS.out _ HSX.out)
            refine ⟨?_, ?_, ?_, ?_⟩
            · rw [← ex]; exact World.cell?_of_block (by rw [add_block]; exact hb)
            · rw [← ey]; exact World.cell?_of_block (by rw [add_block]; exact hb)
            · exact bytes_str (HBx.out W hW)
            · exact bytes_str (HBy.out W hW))
          have HXX := Lib.hid hx
          have HYY := Lib.hid hy
          have HNEXT0 : Hid ((sumN x = sumN y → x = y) → ∀ q x y, q < k + 1 → ls[i]? = some x → ls[q]? = some y → sumN x = sumN y → x = y) := Lib.hid (fun hxy q x' y' hq h1 h2 hs => by
            by_cases hqk : q < k
            · exact HRT.out q x' y' hqk h1 h2 hs
            · have e : q = k := by omega
              subst e
              rw [hx] at h1; rw [hy] at h2
              injection h1 with h1; injection h2 with h2
              subst h1 h2
              exact hxy hs)
          have hkn : k < n := by omega
          have HKI := Lib.hid hki
          clear ex ey bx by_ hx hy hall hki hnx hny
          by_cases hxy : x = y
          · have hbq : (x == y) = true := beq_iff_eq.2 hxy
            have HNEXT : Hid (∀ q x y, q < k + 1 → ls[i]? = some x → ls[q]? = some y → sumN x = sumN y → x = y) := Lib.hid (HNEXT0.out (fun _ => hxy))
            clear hxy
            go_upto_region 7 with fail
            refine wp_region_held_drew (S := (fun W => W.cell? (xa.add i) = some (.slice ax nx cx) ∧ W.cell? (xa.add k) = some (.slice ay ny cy) ∧ (convert 22 9 (.slice ax nx cx)).run Tryd.prog W = .ok (.string ⟨x.toArray⟩) W ∧ (convert 22 9 (.slice ay ny cy)).run Tryd.prog W = .ok (.string ⟨y.toArray⟩) W)) (by kernel_rfl) (by exact HG.out _ (drewBelow wq)) (fun hHeld => ?_)
            have BD0 : Hid (Below wq.heap.size wq wq.drew) := Lib.hid (drewBelow wq)
            obtain ⟨wd, hwd⟩ : ∃ W, wq.drew = W := ⟨_, rfl⟩
            rw [hwd] at BD0 hHeld ⊢
            clear hwd
            refine wpAnyH_take (i := 0) (oi := ⟨_, _, _, _, _, _⟩) (v := ?_) rfl (by kernel_rfl) (by kernel_rfl) (by kernel_rfl) (fun _ _ _ h => h) (Or.inl ⟨by rfl, ?_⟩) (by assumption) ?_
            rotate_left
            · intro w hSw; (try dsimp only at hSw); first | (go_simp; done) | (go_simp; with_reducible rfl)
            try simp only [Act.put, List.setIfInBounds_toArray, List.set_cons_zero, List.set_cons_succ]
            refine wpAnyH_take (i := 1) (oi := ⟨_, _, _, _, _, _⟩) (v := ?_) rfl (by kernel_rfl) (by kernel_rfl) (by kernel_rfl) (fun _ _ _ h => h) (Or.inl ⟨by rfl, ?_⟩) (by assumption) ?_
            rotate_left
            · intro w hSw; (try dsimp only at hSw); first | (go_simp; done) | (go_simp; with_reducible rfl)
            try simp only [Act.put, List.setIfInBounds_toArray, List.set_cons_zero, List.set_cons_succ]
            refine wpAnyH_take (i := 2) (oi := ⟨_, _, _, _, _, _⟩) (v := ?_) rfl (by kernel_rfl) (by kernel_rfl) (by kernel_rfl) (fun _ _ _ h => h) (Or.inl ⟨by rfl, ?_⟩) (by assumption) ?_
            rotate_left
            · intro w hSw; (try dsimp only at hSw); first | (go_simp; done) | (go_simp; with_reducible rfl)
            try simp only [Act.put, List.setIfInBounds_toArray, List.set_cons_zero, List.set_cons_succ]
            refine wpAnyH_take (i := 3) (oi := ⟨_, _, _, _, _, _⟩) (v := ?_) rfl (by kernel_rfl) (by kernel_rfl) (by kernel_rfl) (fun _ _ _ h => h) (Or.inl ⟨by rfl, ?_⟩) (by assumption) ?_
            rotate_left
            · intro w hSw; (try dsimp only at hSw); first | (go_simp; done) | (go_simp; with_reducible rfl)
            try simp only [Act.put, List.setIfInBounds_toArray, List.set_cons_zero, List.set_cons_succ]
            refine wpAnyH_take (i := 4) (oi := ⟨_, _, _, _, _, _⟩) (v := ?_) rfl (by kernel_rfl) (by kernel_rfl) (by kernel_rfl) (fun _ _ _ h => h) (Or.inl ⟨by rfl, ?_⟩) (by assumption) ?_
            rotate_left
            · intro w hSw; (try dsimp only at hSw); first | (go_simp; done) | (go_simp; with_reducible rfl)
            try simp only [Act.put, List.setIfInBounds_toArray, List.set_cons_zero, List.set_cons_succ]
            refine wpAnyH_take (i := 5) (oi := ⟨_, _, _, _, _, _⟩) (v := ?_) rfl (by kernel_rfl) (by kernel_rfl) (by kernel_rfl) (fun _ _ _ h => h) (Or.inl ⟨by rfl, ?_⟩) (by assumption) ?_
            rotate_left
            · intro w hSw; (try dsimp only at hSw); first | (go_simp; done) | (go_simp; with_reducible rfl)
            try simp only [Act.put, List.setIfInBounds_toArray, List.set_cons_zero, List.set_cons_succ]
            refine wpAnyH_take (i := 6) (oi := ⟨_, _, _, _, _, _⟩) (v := ?_) rfl (by kernel_rfl) (by kernel_rfl) (by kernel_rfl) (fun _ _ _ h => h) (Or.inl ⟨by rfl, ?_⟩) (by assumption) ?_
            rotate_left
            · intro w hSw; (try dsimp only at hSw); first | (go_simp; done) | (go_simp; with_reducible rfl)
            try simp only [Act.put, List.setIfInBounds_toArray, List.set_cons_zero, List.set_cons_succ]
            refine wpAnyH_take (i := 7) (oi := ⟨_, _, _, _, _, _⟩) (v := ?_) rfl (by kernel_rfl) (by kernel_rfl) (by kernel_rfl) (fun _ _ _ h => h) (Or.inl ⟨by rfl, ?_⟩) (by assumption) ?_
            rotate_left
            · intro w hSw; (try dsimp only at hSw); first | (go_simp; done) | (go_simp; with_reducible rfl)
            try simp only [Act.put, List.setIfInBounds_toArray, List.set_cons_zero, List.set_cons_succ]
            refine wpAnyH_take (i := 8) (oi := ⟨_, _, _, _, _, _⟩) (v := ?_) rfl (by kernel_rfl) (by kernel_rfl) (by kernel_rfl) (fun _ _ _ h => h) (Or.inl ⟨by rfl, ?_⟩) (by assumption) ?_
            rotate_left
            · intro w hSw; (try dsimp only at hSw); first | (go_simp; done) | (go_simp; with_reducible rfl)
            try simp only [Act.put, List.setIfInBounds_toArray, List.set_cons_zero, List.set_cons_succ]
            refine wpAnyH_take (i := 9) (oi := ⟨_, _, _, _, _, _⟩) (v := ?_) rfl (by kernel_rfl) (by kernel_rfl) (by kernel_rfl) (fun _ _ _ h => h) (Or.inl ⟨by rfl, ?_⟩) (by assumption) ?_
            rotate_left
            · intro w hSw; (try dsimp only at hSw); first | (go_simp; done) | (go_simp; with_reducible rfl)
            try simp only [Act.put, List.setIfInBounds_toArray, List.set_cons_zero, List.set_cons_succ]
            refine wpAnyH_take (i := 10) (oi := ⟨_, _, _, _, _, _⟩) (v := ?_) rfl (by kernel_rfl) (by kernel_rfl) (by kernel_rfl) (fun _ _ _ h => h) (Or.inl ⟨by rfl, ?_⟩) (by assumption) ?_
            rotate_left
            · intro w hSw; (try dsimp only at hSw); first | (go_simp; done) | (go_simp; with_reducible rfl)
            try simp only [Act.put, List.setIfInBounds_toArray, List.set_cons_zero, List.set_cons_succ]
            refine wpAnyH_take (i := 11) (oi := ⟨_, _, _, _, _, _⟩) (v := ?_) rfl (by kernel_rfl) (by kernel_rfl) (by kernel_rfl) (fun _ _ _ h => h) (Or.inl ⟨by rfl, ?_⟩) (by assumption) ?_
            rotate_left
            · intro w hSw; (try dsimp only at hSw); first | (go_simp; done) | (go_simp; with_reducible rfl)
            try simp only [Act.put, List.setIfInBounds_toArray, List.set_cons_zero, List.set_cons_succ]
            first
              | (refine wpAnyH_take (i := 12) (oi := ⟨_, _, _, _, _, _⟩) (v := ?_) rfl (by kernel_rfl) (by kernel_rfl) (by kernel_rfl) (fun _ _ _ h => h) (Or.inl ⟨by rfl, ?_⟩) (by assumption) ?_
                 rotate_left
                 · intro w hSw; (try dsimp only at hSw); first | (go_simp; done) | (go_simp; with_reducible rfl))
              | refine wpAnyH_take (i := 12) (oi := ⟨_, _, _, _, _, _⟩) (v := undef) rfl (by kernel_rfl) (by kernel_rfl) (by kernel_rfl) (fun _ _ _ h => h) (Or.inr ⟨by rfl, rfl⟩) (by assumption) ?_
            try simp only [Act.put, List.setIfInBounds_toArray, List.set_cons_zero, List.set_cons_succ]
            first
              | (refine wpAnyH_take (i := 13) (oi := ⟨_, _, _, _, _, _⟩) (v := ?_) rfl (by kernel_rfl) (by kernel_rfl) (by kernel_rfl) (fun _ _ _ h => h) (Or.inl ⟨by rfl, ?_⟩) (by assumption) ?_
                 rotate_left
                 · intro w hSw; (try dsimp only at hSw); first | (go_simp; done) | (go_simp; with_reducible rfl))
              | refine wpAnyH_take (i := 13) (oi := ⟨_, _, _, _, _, _⟩) (v := undef) rfl (by kernel_rfl) (by kernel_rfl) (by kernel_rfl) (fun _ _ _ h => h) (Or.inr ⟨by rfl, rfl⟩) (by assumption) ?_
            try simp only [Act.put, List.setIfInBounds_toArray, List.set_cons_zero, List.set_cons_succ]
            first
              | (refine wpAnyH_take (i := 14) (oi := ⟨_, _, _, _, _, _⟩) (v := ?_) rfl (by kernel_rfl) (by kernel_rfl) (by kernel_rfl) (fun _ _ _ h => h) (Or.inl ⟨by rfl, ?_⟩) (by assumption) ?_
                 rotate_left
                 · intro w hSw; (try dsimp only at hSw); first | (go_simp; done) | (go_simp; with_reducible rfl))
              | refine wpAnyH_take (i := 14) (oi := ⟨_, _, _, _, _, _⟩) (v := undef) rfl (by kernel_rfl) (by kernel_rfl) (by kernel_rfl) (fun _ _ _ h => h) (Or.inr ⟨by rfl, rfl⟩) (by assumption) ?_
            try simp only [Act.put, List.setIfInBounds_toArray, List.set_cons_zero, List.set_cons_succ]
            first
              | (refine wpAnyH_take (i := 15) (oi := ⟨_, _, _, _, _, _⟩) (v := ?_) rfl (by kernel_rfl) (by kernel_rfl) (by kernel_rfl) (fun _ _ _ h => h) (Or.inl ⟨by rfl, ?_⟩) (by assumption) ?_
                 rotate_left
                 · intro w hSw; (try dsimp only at hSw); first | (go_simp; done) | (go_simp; with_reducible rfl))
              | refine wpAnyH_take (i := 15) (oi := ⟨_, _, _, _, _, _⟩) (v := undef) rfl (by kernel_rfl) (by kernel_rfl) (by kernel_rfl) (fun _ _ _ h => h) (Or.inr ⟨by rfl, rfl⟩) (by assumption) ?_
            try simp only [Act.put, List.setIfInBounds_toArray, List.set_cons_zero, List.set_cons_succ]
            first
              | (refine wpAnyH_take (i := 16) (oi := ⟨_, _, _, _, _, _⟩) (v := ?_) rfl (by kernel_rfl) (by kernel_rfl) (by kernel_rfl) (fun _ _ _ h => h) (Or.inl ⟨by rfl, ?_⟩) (by assumption) ?_
                 rotate_left
                 · intro w hSw; (try dsimp only at hSw); first | (go_simp; done) | (go_simp; with_reducible rfl))
              | refine wpAnyH_take (i := 16) (oi := ⟨_, _, _, _, _, _⟩) (v := undef) rfl (by kernel_rfl) (by kernel_rfl) (by kernel_rfl) (fun _ _ _ h => h) (Or.inr ⟨by rfl, rfl⟩) (by assumption) ?_
            try simp only [Act.put, List.setIfInBounds_toArray, List.set_cons_zero, List.set_cons_succ]
            first
              | (refine wpAnyH_take (i := 17) (oi := ⟨_, _, _, _, _, _⟩) (v := ?_) rfl (by kernel_rfl) (by kernel_rfl) (by kernel_rfl) (fun _ _ _ h => h) (Or.inl ⟨by rfl, ?_⟩) (by assumption) ?_
                 rotate_left
                 · intro w hSw; (try dsimp only at hSw); first | (go_simp; done) | (go_simp; with_reducible rfl))
              | refine wpAnyH_take (i := 17) (oi := ⟨_, _, _, _, _, _⟩) (v := undef) rfl (by kernel_rfl) (by kernel_rfl) (by kernel_rfl) (fun _ _ _ h => h) (Or.inr ⟨by rfl, rfl⟩) (by assumption) ?_
            try simp only [Act.put, List.setIfInBounds_toArray, List.set_cons_zero, List.set_cons_succ]
            first
              | (refine wpAnyH_take (i := 18) (oi := ⟨_, _, _, _, _, _⟩) (v := ?_) rfl (by kernel_rfl) (by kernel_rfl) (by kernel_rfl) (fun _ _ _ h => h) (Or.inl ⟨by rfl, ?_⟩) (by assumption) ?_
                 rotate_left
                 · intro w hSw; (try dsimp only at hSw); first | (go_simp; done) | (go_simp; with_reducible rfl))
              | refine wpAnyH_take (i := 18) (oi := ⟨_, _, _, _, _, _⟩) (v := undef) rfl (by kernel_rfl) (by kernel_rfl) (by kernel_rfl) (fun _ _ _ h => h) (Or.inr ⟨by rfl, rfl⟩) (by assumption) ?_
            try simp only [Act.put, List.setIfInBounds_toArray, List.set_cons_zero, List.set_cons_succ]
            first
              | (refine wpAnyH_take (i := 19) (oi := ⟨_, _, _, _, _, _⟩) (v := ?_) rfl (by kernel_rfl) (by kernel_rfl) (by kernel_rfl) (fun _ _ _ h => h) (Or.inl ⟨by rfl, ?_⟩) (by assumption) ?_
                 rotate_left
                 · intro w hSw; (try dsimp only at hSw); first | (go_simp; done) | (go_simp; with_reducible rfl))
              | refine wpAnyH_take (i := 19) (oi := ⟨_, _, _, _, _, _⟩) (v := undef) rfl (by kernel_rfl) (by kernel_rfl) (by kernel_rfl) (fun _ _ _ h => h) (Or.inr ⟨by rfl, rfl⟩) (by assumption) ?_
            try simp only [Act.put, List.setIfInBounds_toArray, List.set_cons_zero, List.set_cons_succ]
            first
              | (refine wpAnyH_take (i := 20) (oi := ⟨_, _, _, _, _, _⟩) (v := ?_) rfl (by kernel_rfl) (by kernel_rfl) (by kernel_rfl) (fun _ _ _ h => h) (Or.inl ⟨by rfl, ?_⟩) (by assumption) ?_
                 rotate_left
                 · intro w hSw; (try dsimp only at hSw); first | (go_simp; done) | (go_simp; with_reducible rfl))
              | refine wpAnyH_take (i := 20) (oi := ⟨_, _, _, _, _, _⟩) (v := undef) rfl (by kernel_rfl) (by kernel_rfl) (by kernel_rfl) (fun _ _ _ h => h) (Or.inr ⟨by rfl, rfl⟩) (by assumption) ?_
            try simp only [Act.put, List.setIfInBounds_toArray, List.set_cons_zero, List.set_cons_succ]
            first
              | (refine wpAnyH_take (i := 21) (oi := ⟨_, _, _, _, _, _⟩) (v := ?_) rfl (by kernel_rfl) (by kernel_rfl) (by kernel_rfl) (fun _ _ _ h => h) (Or.inl ⟨by rfl, ?_⟩) (by assumption) ?_
                 rotate_left
                 · intro w hSw; (try dsimp only at hSw); first | (go_simp; done) | (go_simp; with_reducible rfl))
              | refine wpAnyH_take (i := 21) (oi := ⟨_, _, _, _, _, _⟩) (v := undef) rfl (by kernel_rfl) (by kernel_rfl) (by kernel_rfl) (fun _ _ _ h => h) (Or.inr ⟨by rfl, rfl⟩) (by assumption) ?_
            try simp only [Act.put, List.setIfInBounds_toArray, List.set_cons_zero, List.set_cons_succ]
            first
              | (refine wpAnyH_take (i := 22) (oi := ⟨_, _, _, _, _, _⟩) (v := ?_) rfl (by kernel_rfl) (by kernel_rfl) (by kernel_rfl) (fun _ _ _ h => h) (Or.inl ⟨by rfl, ?_⟩) (by assumption) ?_
                 rotate_left
                 · intro w hSw; (try dsimp only at hSw); first | (go_simp; done) | (go_simp; with_reducible rfl))
              | refine wpAnyH_take (i := 22) (oi := ⟨_, _, _, _, _, _⟩) (v := undef) rfl (by kernel_rfl) (by kernel_rfl) (by kernel_rfl) (fun _ _ _ h => h) (Or.inr ⟨by rfl, rfl⟩) (by assumption) ?_
            try simp only [Act.put, List.setIfInBounds_toArray, List.set_cons_zero, List.set_cons_succ]
            first
              | (refine wpAnyH_take (i := 23) (oi := ⟨_, _, _, _, _, _⟩) (v := ?_) rfl (by kernel_rfl) (by kernel_rfl) (by kernel_rfl) (fun _ _ _ h => h) (Or.inl ⟨by rfl, ?_⟩) (by assumption) ?_
                 rotate_left
                 · intro w hSw; (try dsimp only at hSw); first | (go_simp; done) | (go_simp; with_reducible rfl))
              | refine wpAnyH_take (i := 23) (oi := ⟨_, _, _, _, _, _⟩) (v := undef) rfl (by kernel_rfl) (by kernel_rfl) (by kernel_rfl) (fun _ _ _ h => h) (Or.inr ⟨by rfl, rfl⟩) (by assumption) ?_
            try simp only [Act.put, List.setIfInBounds_toArray, List.set_cons_zero, List.set_cons_succ]
            first
              | (refine wpAnyH_take (i := 24) (oi := ⟨_, _, _, _, _, _⟩) (v := ?_) rfl (by kernel_rfl) (by kernel_rfl) (by kernel_rfl) (fun _ _ _ h => h) (Or.inl ⟨by rfl, ?_⟩) (by assumption) ?_
                 rotate_left
                 · intro w hSw; (try dsimp only at hSw); first | (go_simp; done) | (go_simp; with_reducible rfl))
              | refine wpAnyH_take (i := 24) (oi := ⟨_, _, _, _, _, _⟩) (v := undef) rfl (by kernel_rfl) (by kernel_rfl) (by kernel_rfl) (fun _ _ _ h => h) (Or.inr ⟨by rfl, rfl⟩) (by assumption) ?_
            try simp only [Act.put, List.setIfInBounds_toArray, List.set_cons_zero, List.set_cons_succ]
            refine wpAnyH_take (i := 25) (oi := ⟨_, _, _, _, _, _⟩) (v := ?_) rfl (by kernel_rfl) (by kernel_rfl) (by kernel_rfl) (fun _ _ _ h => h) (Or.inl ⟨by rfl, ?_⟩) (by assumption) ?_
            rotate_left
            · intro w hSw; (try dsimp only at hSw); first | (go_simp; done) | (go_simp; with_reducible rfl)
            try simp only [Act.put, List.setIfInBounds_toArray, List.set_cons_zero, List.set_cons_succ]
            refine wpAnyH_done (by kernel_rfl) ?_ _
            clear hHeld
            go_wp2_with fail
            go_roundw
            case rel => exact ⟨k + 1, by have := HKI.out; omega, by go_num, BQ.out.trans (BD0.out.mono BQ.out.size), HNEXT⟩
            case measure => have := HKI.out; simp only [intOf]; omega
          · have hbq : (x == y) = false := beq_eq_false_iff_ne.2 hxy
            obtain ⟨O1, hO1⟩ : ∃ O, sumN x = O := ⟨_, rfl⟩
            obtain ⟨O2, hO2⟩ : ∃ O, sumN y = O := ⟨_, rfl⟩
            have HO1 := Lib.hid hO1
            have HO2 := Lib.hid hO2
            have hO32 : O1.length = 32 := by rw [← hO1]; exact sumN_len _
            have hP32 : O2.length = 32 := by rw [← hO2]; exact sumN_len _
            by_cases hoo : O1 = O2
            · have heq : ∀ W, (binOp .eql 44 (.agg (bv O1).toArray) (.agg (bv O2).toArray)).run Tryd.prog W = .ok (.bool true) W := fun W => by rw [id_eql W hO32 hP32, decide_eq_true hoo]
              clear hxy hO1 hO2 hO32 hP32 hoo
              go_upto_region 7 with fail
              refine wp_region_held_drew (S := (fun W => W.cell? (xa.add i) = some (.slice ax nx cx) ∧ W.cell? (xa.add k) = some (.slice ay ny cy) ∧ (convert 22 9 (.slice ax nx cx)).run Tryd.prog W = .ok (.string ⟨x.toArray⟩) W ∧ (convert 22 9 (.slice ay ny cy)).run Tryd.prog W = .ok (.string ⟨y.toArray⟩) W)) (by kernel_rfl) (by exact HG.out _ (drewBelow wq)) (fun hHeld => ?_)
              have BD0 : Hid (Below wq.heap.size wq wq.drew) := Lib.hid (drewBelow wq)
              obtain ⟨wd, hwd⟩ : ∃ W, wq.drew = W := ⟨_, rfl⟩
              rw [hwd] at BD0 hHeld ⊢
              clear hwd
              refine wpAnyH_take (i := 0) (oi := ⟨_, _, _, _, _, _⟩) (v := ?_) rfl (by kernel_rfl) (by kernel_rfl) (by kernel_rfl) (fun _ _ _ h => h) (Or.inl ⟨by rfl, ?_⟩) (by assumption) ?_
              rotate_left
              · intro w hSw; (try dsimp only at hSw); first | (go_simp; done) | (go_simp; with_reducible rfl)
              try simp only [Act.put, List.setIfInBounds_toArray, List.set_cons_zero, List.set_cons_succ]
              refine wpAnyH_take (i := 1) (oi := ⟨_, _, _, _, _, _⟩) (v := ?_) rfl (by kernel_rfl) (by kernel_rfl) (by kernel_rfl) (fun _ _ _ h => h) (Or.inl ⟨by rfl, ?_⟩) (by assumption) ?_
              rotate_left
              · intro w hSw; (try dsimp only at hSw); first | (go_simp; done) | (go_simp; with_reducible rfl)
              try simp only [Act.put, List.setIfInBounds_toArray, List.set_cons_zero, List.set_cons_succ]
              refine wpAnyH_take (i := 2) (oi := ⟨_, _, _, _, _, _⟩) (v := ?_) rfl (by kernel_rfl) (by kernel_rfl) (by kernel_rfl) (fun _ _ _ h => h) (Or.inl ⟨by rfl, ?_⟩) (by assumption) ?_
              rotate_left
              · intro w hSw; (try dsimp only at hSw); first | (go_simp; done) | (go_simp; with_reducible rfl)
              try simp only [Act.put, List.setIfInBounds_toArray, List.set_cons_zero, List.set_cons_succ]
              refine wpAnyH_take (i := 3) (oi := ⟨_, _, _, _, _, _⟩) (v := ?_) rfl (by kernel_rfl) (by kernel_rfl) (by kernel_rfl) (fun _ _ _ h => h) (Or.inl ⟨by rfl, ?_⟩) (by assumption) ?_
              rotate_left
              · intro w hSw; (try dsimp only at hSw); first | (go_simp; done) | (go_simp; with_reducible rfl)
              try simp only [Act.put, List.setIfInBounds_toArray, List.set_cons_zero, List.set_cons_succ]
              refine wpAnyH_take (i := 4) (oi := ⟨_, _, _, _, _, _⟩) (v := ?_) rfl (by kernel_rfl) (by kernel_rfl) (by kernel_rfl) (fun _ _ _ h => h) (Or.inl ⟨by rfl, ?_⟩) (by assumption) ?_
              rotate_left
              · intro w hSw; (try dsimp only at hSw); first | (go_simp; done) | (go_simp; with_reducible rfl)
              try simp only [Act.put, List.setIfInBounds_toArray, List.set_cons_zero, List.set_cons_succ]
              refine wpAnyH_take (i := 5) (oi := ⟨_, _, _, _, _, _⟩) (v := ?_) rfl (by kernel_rfl) (by kernel_rfl) (by kernel_rfl) (fun _ _ _ h => h) (Or.inl ⟨by rfl, ?_⟩) (by assumption) ?_
              rotate_left
              · intro w hSw; (try dsimp only at hSw); first | (go_simp; done) | (go_simp; with_reducible rfl)
              try simp only [Act.put, List.setIfInBounds_toArray, List.set_cons_zero, List.set_cons_succ]
              refine wpAnyH_take (i := 6) (oi := ⟨_, _, _, _, _, _⟩) (v := ?_) rfl (by kernel_rfl) (by kernel_rfl) (by kernel_rfl) (fun _ _ _ h => h) (Or.inl ⟨by rfl, ?_⟩) (by assumption) ?_
              rotate_left
              · intro w hSw; (try dsimp only at hSw); first | (go_simp; done) | (go_simp; with_reducible rfl)
              try simp only [Act.put, List.setIfInBounds_toArray, List.set_cons_zero, List.set_cons_succ]
              refine wpAnyH_take (i := 7) (oi := ⟨_, _, _, _, _, _⟩) (v := ?_) rfl (by kernel_rfl) (by kernel_rfl) (by kernel_rfl) (fun _ _ _ h => h) (Or.inl ⟨by rfl, ?_⟩) (by assumption) ?_
              rotate_left
              · intro w hSw; (try dsimp only at hSw); first | (go_simp; done) | (go_simp; with_reducible rfl)
              try simp only [Act.put, List.setIfInBounds_toArray, List.set_cons_zero, List.set_cons_succ]
              refine wpAnyH_take (i := 8) (oi := ⟨_, _, _, _, _, _⟩) (v := ?_) rfl (by kernel_rfl) (by kernel_rfl) (by kernel_rfl) (fun _ _ _ h => h) (Or.inl ⟨by rfl, ?_⟩) (by assumption) ?_
              rotate_left
              · intro w hSw; (try dsimp only at hSw); first | (go_simp; done) | (go_simp; with_reducible rfl)
              try simp only [Act.put, List.setIfInBounds_toArray, List.set_cons_zero, List.set_cons_succ]
              refine wpAnyH_take (i := 9) (oi := ⟨_, _, _, _, _, _⟩) (v := ?_) rfl (by kernel_rfl) (by kernel_rfl) (by kernel_rfl) (fun _ _ _ h => h) (Or.inl ⟨by rfl, ?_⟩) (by assumption) ?_
              rotate_left
              · intro w hSw; (try dsimp only at hSw); first | (go_simp; done) | (go_simp; with_reducible rfl)
              try simp only [Act.put, List.setIfInBounds_toArray, List.set_cons_zero, List.set_cons_succ]
              refine wpAnyH_take (i := 10) (oi := ⟨_, _, _, _, _, _⟩) (v := ?_) rfl (by kernel_rfl) (by kernel_rfl) (by kernel_rfl) (fun _ _ _ h => h) (Or.inl ⟨by rfl, ?_⟩) (by assumption) ?_
              rotate_left
              · intro w hSw; (try dsimp only at hSw); first | (go_simp; done) | (go_simp; with_reducible rfl)
              try simp only [Act.put, List.setIfInBounds_toArray, List.set_cons_zero, List.set_cons_succ]
              refine wpAnyH_take (i := 11) (oi := ⟨_, _, _, _, _, _⟩) (v := ?_) rfl (by kernel_rfl) (by kernel_rfl) (by kernel_rfl) (fun _ _ _ h => h) (Or.inl ⟨by rfl, ?_⟩) (by assumption) ?_
              rotate_left
              · intro w hSw; (try dsimp only at hSw); first | (go_simp; done) | (go_simp; with_reducible rfl)
              try simp only [Act.put, List.setIfInBounds_toArray, List.set_cons_zero, List.set_cons_succ]
              refine wpAnyH_take (i := 12) (oi := ⟨_, _, _, _, _, _⟩) (v := ?_) rfl (by kernel_rfl) (by kernel_rfl) (by kernel_rfl) (fun _ _ _ h => h) (Or.inl ⟨by rfl, ?_⟩) (by assumption) ?_
              rotate_left
              · intro w hSw; (try dsimp only at hSw); first | (go_simp; done) | (go_simp; with_reducible rfl)
              try simp only [Act.put, List.setIfInBounds_toArray, List.set_cons_zero, List.set_cons_succ]
              refine wpAnyH_take (i := 13) (oi := ⟨_, _, _, _, _, _⟩) (v := ?_) rfl (by kernel_rfl) (by kernel_rfl) (by kernel_rfl) (fun _ _ _ h => h) (Or.inl ⟨by rfl, ?_⟩) (by assumption) ?_
              rotate_left
              · intro w hSw; (try dsimp only at hSw); first | (go_simp; done) | (go_simp; with_reducible rfl)
              try simp only [Act.put, List.setIfInBounds_toArray, List.set_cons_zero, List.set_cons_succ]
              refine wpAnyH_take (i := 14) (oi := ⟨_, _, _, _, _, _⟩) (v := ?_) rfl (by kernel_rfl) (by kernel_rfl) (by kernel_rfl) (fun _ _ _ h => h) (Or.inl ⟨by rfl, ?_⟩) (by assumption) ?_
              rotate_left
              · intro w hSw; (try dsimp only at hSw); first | (go_simp; done) | (go_simp; with_reducible rfl)
              try simp only [Act.put, List.setIfInBounds_toArray, List.set_cons_zero, List.set_cons_succ]
              refine wpAnyH_take (i := 15) (oi := ⟨_, _, _, _, _, _⟩) (v := ?_) rfl (by kernel_rfl) (by kernel_rfl) (by kernel_rfl) (fun _ _ _ h => h) (Or.inl ⟨by rfl, ?_⟩) (by assumption) ?_
              rotate_left
              · intro w hSw; (try dsimp only at hSw); first | (go_simp; done) | (go_simp; with_reducible rfl)
              try simp only [Act.put, List.setIfInBounds_toArray, List.set_cons_zero, List.set_cons_succ]
              refine wpAnyH_take (i := 18) (oi := ⟨_, _, _, _, _, _⟩) (v := ?_) rfl (by kernel_rfl) (by kernel_rfl) (by kernel_rfl) (fun _ _ _ h => h) (Or.inl ⟨by rfl, ?_⟩) (by assumption) ?_
              rotate_left
              · intro w hSw; (try dsimp only at hSw); first | (go_simp; done) | (go_simp; with_reducible rfl)
              try simp only [Act.put, List.setIfInBounds_toArray, List.set_cons_zero, List.set_cons_succ]
              refine wpAnyH_take (i := 19) (oi := ⟨_, _, _, _, _, _⟩) (v := ?_) rfl (by kernel_rfl) (by kernel_rfl) (by kernel_rfl) (fun _ _ _ h => h) (Or.inl ⟨by rfl, ?_⟩) (by assumption) ?_
              rotate_left
              · intro w hSw; (try dsimp only at hSw); first | (go_simp; done) | (go_simp; with_reducible rfl)
              try simp only [Act.put, List.setIfInBounds_toArray, List.set_cons_zero, List.set_cons_succ]
              refine wpAnyH_take (i := 20) (oi := ⟨_, _, _, _, _, _⟩) (v := ?_) rfl (by kernel_rfl) (by kernel_rfl) (by kernel_rfl) (fun _ _ _ h => h) (Or.inl ⟨by rfl, ?_⟩) (by assumption) ?_
              rotate_left
              · intro w hSw; (try dsimp only at hSw); first | (go_simp; done) | (go_simp; with_reducible rfl)
              try simp only [Act.put, List.setIfInBounds_toArray, List.set_cons_zero, List.set_cons_succ]
              refine wpAnyH_take (i := 21) (oi := ⟨_, _, _, _, _, _⟩) (v := ?_) rfl (by kernel_rfl) (by kernel_rfl) (by kernel_rfl) (fun _ _ _ h => h) (Or.inl ⟨by rfl, ?_⟩) (by assumption) ?_
              rotate_left
              · intro w hSw; (try dsimp only at hSw); first | (go_simp; done) | (go_simp; with_reducible rfl)
              try simp only [Act.put, List.setIfInBounds_toArray, List.set_cons_zero, List.set_cons_succ]
              refine wpAnyH_ready (rs := [16, 22]) (by kernel_rfl) (by simp) ?_
              refine AllReadyH.cons (o := ⟨_, _, _, _, _, _⟩) rfl (fun K hK => ?_) (AllReadyH.cons (o := ⟨_, _, _, _, _, _⟩) rfl (fun K hK => ?_) AllReadyH.nil)
              · go_simp
                refine any_stepC (fun wn1 hN => ?_)
                have Bwn1 : Hid (Below wq.heap.size wq wn1) := Lib.hid (by rw [hN]; exact BD0.out.alloc BD0.out.size _)
                have Rx : Hid (ChunksC (fun k => k < wn1.heap.size) wn1 (.slice (some ⟨wd.heap.size, 0, none⟩) 1 1) [x]) := Lib.hid (by rw [hN]; exact (chunks_one wd _ x (HBx.out _ BD0.out)).kept (fun k hk => ⟨by simpa using hk, rfl⟩))
                obtain ⟨zx, hz⟩ : ∃ q, wd.heap.size = q := ⟨_, rfl⟩
                rw [hz] at Rx ⊢
                clear hN hz BD0
                try go_wp2_with fail
                refine hK.out _ _ (by exact HG.out _ (Hid.out (by assumption))) (fun hHeld => ?_)
                clear hK K
                try simp only [Act.put, List.setIfInBounds_toArray, List.set_cons_zero, List.set_cons_succ]
                refine wpAnyH_ready (rs := [17, 22]) (by kernel_rfl) (by simp) ?_
                refine AllReadyH.cons (o := ⟨_, _, _, _, _, _⟩) rfl (fun K hK => ?_) (AllReadyH.cons (o := ⟨_, _, _, _, _, _⟩) rfl (fun K hK => ?_) AllReadyH.nil)
                · go_simp
                  refine (sum_any _ _ [x] wn1 (fun k hk => hk) Rx.out (by rw [HFx.out]; have := HLx.out; omega) (by simp) (HEV.out _ Bwn1.out)).mono ?_
                  rintro e wn2 ⟨rfl, hbs⟩
                  rw [HFx.out, HO1.out]
                  have Bwn2 : Hid (Below wq.heap.size wq wn2) := Lib.hid (Bwn1.out.trans (hbs.mono Bwn1.out.size))
                  clear hbs Bwn1 Rx
                  try go_wp2_with fail
                  refine hK.out _ _ (by exact HG.out _ (Hid.out (by assumption))) (fun hHeld => ?_)
                  clear hK K
                  try simp only [Act.put, List.setIfInBounds_toArray, List.set_cons_zero, List.set_cons_succ]
                  refine wpAnyH_ready (rs := [22]) (by kernel_rfl) (by simp) ?_
                  refine AllReadyH.cons (o := ⟨_, _, _, _, _, _⟩) rfl (fun K hK => ?_) AllReadyH.nil
                  go_simp
                  refine any_stepC (fun wn3 hN => ?_)
                  have Bwn3 : Hid (Below wq.heap.size wq wn3) := Lib.hid (by rw [hN]; exact Bwn2.out.alloc Bwn2.out.size _)
                  have Ry : Hid (ChunksC (fun k => k < wn3.heap.size) wn3 (.slice (some ⟨wn2.heap.size, 0, none⟩) 1 1) [y]) := Lib.hid (by rw [hN]; exact (chunks_one wn2 _ y (HBy.out _ Bwn2.out)).kept (fun k hk => ⟨by simpa using hk, rfl⟩))
                  obtain ⟨zy, hz⟩ : ∃ q, wn2.heap.size = q := ⟨_, rfl⟩
                  rw [hz] at Ry ⊢
                  clear hN hz Bwn2
                  try go_wp2_with fail
                  refine hK.out _ _ (by exact HG.out _ (Hid.out (by assumption))) (fun hHeld => ?_)
                  clear hK K
                  try simp only [Act.put, List.setIfInBounds_toArray, List.set_cons_zero, List.set_cons_succ]
                  refine wpAnyH_ready (rs := [23]) (by kernel_rfl) (by simp) ?_
                  refine AllReadyH.cons (o := ⟨_, _, _, _, _, _⟩) rfl (fun K hK => ?_) AllReadyH.nil
                  go_simp
                  refine (sum_any _ _ [y] wn3 (fun k hk => hk) Ry.out (by rw [HFy.out]; have := HLy.out; omega) (by simp) (HEV.out _ Bwn3.out)).mono ?_
                  rintro e wn4 ⟨rfl, hbs⟩
                  rw [HFy.out, HO2.out]
                  have Bwn4 : Hid (Below wq.heap.size wq wn4) := Lib.hid (Bwn3.out.trans (hbs.mono Bwn3.out.size))
                  clear hbs Bwn3 Ry
                  try go_wp2_with fail
                  refine hK.out _ _ (by exact HG.out _ (Hid.out (by assumption))) (fun hHeld => ?_)
                  clear hK K
                  try simp only [Act.put, List.setIfInBounds_toArray, List.set_cons_zero, List.set_cons_succ]
                  refine wpAnyH_take (i := 24) (oi := ⟨_, _, _, _, _, _⟩) (v := ?_) rfl (by kernel_rfl) (by kernel_rfl) (by kernel_rfl) (fun _ _ _ h => h) (Or.inl ⟨by rfl, ?_⟩) (by assumption) ?_
                  rotate_left
                  · intro w hSw; (try dsimp only at hSw); first | (go_simp; done) | (go_simp; with_reducible rfl)
                  try simp only [Act.put, List.setIfInBounds_toArray, List.set_cons_zero, List.set_cons_succ]
                  refine wpAnyH_take (i := 25) (oi := ⟨_, _, _, _, _, _⟩) (v := ?_) rfl (by kernel_rfl) (by kernel_rfl) (by kernel_rfl) (fun _ _ _ h => h) (Or.inl ⟨by rfl, ?_⟩) (by assumption) ?_
                  rotate_left
                  · intro w hSw; (try dsimp only at hSw); first | (go_simp; done) | (go_simp; with_reducible rfl)
                  try simp only [Act.put, List.setIfInBounds_toArray, List.set_cons_zero, List.set_cons_succ]
                  refine wpAnyH_done (by kernel_rfl) ?_ _
                  clear hHeld
                  go_wp2_with fail
                  go_ret
                  exact ⟨true, rfl, BQ.out.trans (Bwn4.out.mono BQ.out.size), fun h => (by cases h)⟩
                · go_simp
                  refine any_stepC (fun wn5 hN => ?_)
                  have Bwn5 : Hid (Below wq.heap.size wq wn5) := Lib.hid (by rw [hN]; exact Bwn1.out.alloc Bwn1.out.size _)
                  have Ry : Hid (ChunksC (fun k => k < wn5.heap.size) wn5 (.slice (some ⟨wn1.heap.size, 0, none⟩) 1 1) [y]) := Lib.hid (by rw [hN]; exact (chunks_one wn1 _ y (HBy.out _ Bwn1.out)).kept (fun k hk => ⟨by simpa using hk, rfl⟩))
                  have Rx' : Hid (ChunksC (fun k => k < wn5.heap.size) wn5 (.slice (some ⟨zx, 0, none⟩) 1 1) [x]) := Lib.hid (by rw [hN]; exact Rx.out.kept (fun k hk => ⟨by simp; omega, Below.heap_alloc _ _ _ hk⟩))
                  clear Rx
                  have Rx := Rx'
                  clear Rx'
                  obtain ⟨zy, hz⟩ : ∃ q, wn1.heap.size = q := ⟨_, rfl⟩
                  rw [hz] at Ry ⊢
                  clear hN hz Bwn1
                  try go_wp2_with fail
                  refine hK.out _ _ (by exact HG.out _ (Hid.out (by assumption))) (fun hHeld => ?_)
                  clear hK K
                  try simp only [Act.put, List.setIfInBounds_toArray, List.set_cons_zero, List.set_cons_succ]
                  refine wpAnyH_ready (rs := [17]) (by kernel_rfl) (by simp) ?_
                  refine AllReadyH.cons (o := ⟨_, _, _, _, _, _⟩) rfl (fun K hK => ?_) AllReadyH.nil
                  go_simp
                  refine (sum_any _ _ [x] wn5 (fun k hk => hk) Rx.out (by rw [HFx.out]; have := HLx.out; omega) (by simp) (HEV.out _ Bwn5.out)).mono ?_
                  rintro e wn6 ⟨rfl, hbs⟩
                  rw [HFx.out, HO1.out]
                  have Bwn6 : Hid (Below wq.heap.size wq wn6) := Lib.hid (Bwn5.out.trans (hbs.mono Bwn5.out.size))
                  have Ry' : Hid (ChunksC (fun k => k < wn6.heap.size) wn6 (.slice (some ⟨zy, 0, none⟩) 1 1) [y]) := Lib.hid (Ry.out.kept (fun k hk => ⟨Nat.lt_of_lt_of_le hk hbs.size, hbs.block k hk⟩))
                  clear Ry
                  have Ry := Ry'
                  clear Ry'
                  clear hbs Bwn5 Rx
                  try go_wp2_with fail
                  refine hK.out _ _ (by exact HG.out _ (Hid.out (by assumption))) (fun hHeld => ?_)
                  clear hK K
                  try simp only [Act.put, List.setIfInBounds_toArray, List.set_cons_zero, List.set_cons_succ]
                  refine wpAnyH_ready (rs := [23]) (by kernel_rfl) (by simp) ?_
                  refine AllReadyH.cons (o := ⟨_, _, _, _, _, _⟩) rfl (fun K hK => ?_) AllReadyH.nil
                  go_simp
                  refine (sum_any _ _ [y] wn6 (fun k hk => hk) Ry.out (by rw [HFy.out]; have := HLy.out; omega) (by simp) (HEV.out _ Bwn6.out)).mono ?_
                  rintro e wn7 ⟨rfl, hbs⟩
                  rw [HFy.out, HO2.out]
                  have Bwn7 : Hid (Below wq.heap.size wq wn7) := Lib.hid (Bwn6.out.trans (hbs.mono Bwn6.out.size))
                  clear hbs Bwn6 Ry
                  try go_wp2_with fail
                  refine hK.out _ _ (by exact HG.out _ (Hid.out (by assumption))) (fun hHeld => ?_)
                  clear hK K
                  try simp only [Act.put, List.setIfInBounds_toArray, List.set_cons_zero, List.set_cons_succ]
                  refine wpAnyH_take (i := 24) (oi := ⟨_, _, _, _, _, _⟩) (v := ?_) rfl (by kernel_rfl) (by kernel_rfl) (by kernel_rfl) (fun _ _ _ h => h) (Or.inl ⟨by rfl, ?_⟩) (by assumption) ?_
                  rotate_left
                  · intro w hSw; (try dsimp only at hSw); first | (go_simp; done) | (go_simp; with_reducible rfl)
                  try simp only [Act.put, List.setIfInBounds_toArray, List.set_cons_zero, List.set_cons_succ]
                  refine wpAnyH_take (i := 25) (oi := ⟨_, _, _, _, _, _⟩) (v := ?_) rfl (by kernel_rfl) (by kernel_rfl) (by kernel_rfl) (fun _ _ _ h => h) (Or.inl ⟨by rfl, ?_⟩) (by assumption) ?_
                  rotate_left
                  · intro w hSw; (try dsimp only at hSw); first | (go_simp; done) | (go_simp; with_reducible rfl)
                  try simp only [Act.put, List.setIfInBounds_toArray, List.set_cons_zero, List.set_cons_succ]
                  refine wpAnyH_done (by kernel_rfl) ?_ _
                  clear hHeld
                  go_wp2_with fail
                  go_ret
                  exact ⟨true, rfl, BQ.out.trans (Bwn7.out.mono BQ.out.size), fun h => (by cases h)⟩
              · go_simp
                refine any_stepC (fun wn8 hN => ?_)
                have Bwn8 : Hid (Below wq.heap.size wq wn8) := Lib.hid (by rw [hN]; exact BD0.out.alloc BD0.out.size _)
                have Ry : Hid (ChunksC (fun k => k < wn8.heap.size) wn8 (.slice (some ⟨wd.heap.size, 0, none⟩) 1 1) [y]) := Lib.hid (by rw [hN]; exact (chunks_one wd _ y (HBy.out _ BD0.out)).kept (fun k hk => ⟨by simpa using hk, rfl⟩))
                obtain ⟨zy, hz⟩ : ∃ q, wd.heap.size = q := ⟨_, rfl⟩
                rw [hz] at Ry ⊢
                clear hN hz BD0
                try go_wp2_with fail
                refine hK.out _ _ (by exact HG.out _ (Hid.out (by assumption))) (fun hHeld => ?_)
                clear hK K
                try simp only [Act.put, List.setIfInBounds_toArray, List.set_cons_zero, List.set_cons_succ]
                refine wpAnyH_ready (rs := [16]) (by kernel_rfl) (by simp) ?_
                refine AllReadyH.cons (o := ⟨_, _, _, _, _, _⟩) rfl (fun K hK => ?_) AllReadyH.nil
                go_simp
                refine any_stepC (fun wn9 hN => ?_)
                have Bwn9 : Hid (Below wq.heap.size wq wn9) := Lib.hid (by rw [hN]; exact Bwn8.out.alloc Bwn8.out.size _)
                have Rx : Hid (ChunksC (fun k => k < wn9.heap.size) wn9 (.slice (some ⟨wn8.heap.size, 0, none⟩) 1 1) [x]) := Lib.hid (by rw [hN]; exact (chunks_one wn8 _ x (HBx.out _ Bwn8.out)).kept (fun k hk => ⟨by simpa using hk, rfl⟩))
                have Ry' : Hid (ChunksC (fun k => k < wn9.heap.size) wn9 (.slice (some ⟨zy, 0, none⟩) 1 1) [y]) := Lib.hid (by rw [hN]; exact Ry.out.kept (fun k hk => ⟨by simp; omega, Below.heap_alloc _ _ _ hk⟩))
                clear Ry
                have Ry := Ry'
                clear Ry'
                obtain ⟨zx, hz⟩ : ∃ q, wn8.heap.size = q := ⟨_, rfl⟩
                rw [hz] at Rx ⊢
                clear hN hz Bwn8
                try go_wp2_with fail
                refine hK.out _ _ (by exact HG.out _ (Hid.out (by assumption))) (fun hHeld => ?_)
                clear hK K
                try simp only [Act.put, List.setIfInBounds_toArray, List.set_cons_zero, List.set_cons_succ]
                refine wpAnyH_ready (rs := [17]) (by kernel_rfl) (by simp) ?_
                refine AllReadyH.cons (o := ⟨_, _, _, _, _, _⟩) rfl (fun K hK => ?_) AllReadyH.nil
                go_simp
                refine (sum_any _ _ [x] wn9 (fun k hk => hk) Rx.out (by rw [HFx.out]; have := HLx.out; omega) (by simp) (HEV.out _ Bwn9.out)).mono ?_
                rintro e wn10 ⟨rfl, hbs⟩
                rw [HFx.out, HO1.out]
                have Bwn10 : Hid (Below wq.heap.size wq wn10) := Lib.hid (Bwn9.out.trans (hbs.mono Bwn9.out.size))
                have Ry' : Hid (ChunksC (fun k => k < wn10.heap.size) wn10 (.slice (some ⟨zy, 0, none⟩) 1 1) [y]) := Lib.hid (Ry.out.kept (fun k hk => ⟨Nat.lt_of_lt_of_le hk hbs.size, hbs.block k hk⟩))
                clear Ry
                have Ry := Ry'
                clear Ry'
                clear hbs Bwn9 Rx
                try go_wp2_with fail
                refine hK.out _ _ (by exact HG.out _ (Hid.out (by assumption))) (fun hHeld => ?_)
                clear hK K
                try simp only [Act.put, List.setIfInBounds_toArray, List.set_cons_zero, List.set_cons_succ]
                refine wpAnyH_ready (rs := [23]) (by kernel_rfl) (by simp) ?_
                refine AllReadyH.cons (o := ⟨_, _, _, _, _, _⟩) rfl (fun K hK => ?_) AllReadyH.nil
                go_simp
                refine (sum_any _ _ [y] wn10 (fun k hk => hk) Ry.out (by rw [HFy.out]; have := HLy.out; omega) (by simp) (HEV.out _ Bwn10.out)).mono ?_
                rintro e wn11 ⟨rfl, hbs⟩
                rw [HFy.out, HO2.out]
                have Bwn11 : Hid (Below wq.heap.size wq wn11) := Lib.hid (Bwn10.out.trans (hbs.mono Bwn10.out.size))
                clear hbs Bwn10 Ry
                try go_wp2_with fail
                refine hK.out _ _ (by exact HG.out _ (Hid.out (by assumption))) (fun hHeld => ?_)
                clear hK K
                try simp only [Act.put, List.setIfInBounds_toArray, List.set_cons_zero, List.set_cons_succ]
                refine wpAnyH_take (i := 24) (oi := ⟨_, _, _, _, _, _⟩) (v := ?_) rfl (by kernel_rfl) (by kernel_rfl) (by kernel_rfl) (fun _ _ _ h => h) (Or.inl ⟨by rfl, ?_⟩) (by assumption) ?_
                rotate_left
                · intro w hSw; (try dsimp only at hSw); first | (go_simp; done) | (go_simp; with_reducible rfl)
                try simp only [Act.put, List.setIfInBounds_toArray, List.set_cons_zero, List.set_cons_succ]
                refine wpAnyH_take (i := 25) (oi := ⟨_, _, _, _, _, _⟩) (v := ?_) rfl (by kernel_rfl) (by kernel_rfl) (by kernel_rfl) (fun _ _ _ h => h) (Or.inl ⟨by rfl, ?_⟩) (by assumption) ?_
                rotate_left
                · intro w hSw; (try dsimp only at hSw); first | (go_simp; done) | (go_simp; with_reducible rfl)
                try simp only [Act.put, List.setIfInBounds_toArray, List.set_cons_zero, List.set_cons_succ]
                refine wpAnyH_done (by kernel_rfl) ?_ _
                clear hHeld
                go_wp2_with fail
                go_ret
                exact ⟨true, rfl, BQ.out.trans (Bwn11.out.mono BQ.out.size), fun h => (by cases h)⟩
            · have heq : ∀ W, (binOp .eql 44 (.agg (bv O1).toArray) (.agg (bv O2).toArray)).run Tryd.prog W = .ok (.bool false) W := fun W => by rw [id_eql W hO32 hP32, decide_eq_false hoo]
              have HNEXT : Hid (∀ q x y, q < k + 1 → ls[i]? = some x → ls[q]? = some y → sumN x = sumN y → x = y) := Lib.hid (HNEXT0.out (fun h => by rw [hO1, hO2] at h; exact absurd h hoo))
              clear hxy hO1 hO2 hO32 hP32 hoo
              go_upto_region 7 with fail
              refine wp_region_held_drew (S := (fun W => W.cell? (xa.add i) = some (.slice ax nx cx) ∧ W.cell? (xa.add k) = some (.slice ay ny cy) ∧ (convert 22 9 (.slice ax nx cx)).run Tryd.prog W = .ok (.string ⟨x.toArray⟩) W ∧ (convert 22 9 (.slice ay ny cy)).run Tryd.prog W = .ok (.string ⟨y.toArray⟩) W)) (by kernel_rfl) (by exact HG.out _ (drewBelow wq)) (fun hHeld => ?_)
              have BD0 : Hid (Below wq.heap.size wq wq.drew) := Lib.hid (drewBelow wq)
              obtain ⟨wd, hwd⟩ : ∃ W, wq.drew = W := ⟨_, rfl⟩
              rw [hwd] at BD0 hHeld ⊢
              clear hwd
              refine wpAnyH_take (i := 0) (oi := ⟨_, _, _, _, _, _⟩) (v := ?_) rfl (by kernel_rfl) (by kernel_rfl) (by kernel_rfl) (fun _ _ _ h => h) (Or.inl ⟨by rfl, ?_⟩) (by assumption) ?_
              rotate_left
              · intro w hSw; (try dsimp only at hSw); first | (go_simp; done) | (go_simp; with_reducible rfl)
              try simp only [Act.put, List.setIfInBounds_toArray, List.set_cons_zero, List.set_cons_succ]
              refine wpAnyH_take (i := 1) (oi := ⟨_, _, _, _, _, _⟩) (v := ?_) rfl (by kernel_rfl) (by kernel_rfl) (by kernel_rfl) (fun _ _ _ h => h) (Or.inl ⟨by rfl, ?_⟩) (by assumption) ?_
              rotate_left
              · intro w hSw; (try dsimp only at hSw); first | (go_simp; done) | (go_simp; with_reducible rfl)
              try simp only [Act.put, List.setIfInBounds_toArray, List.set_cons_zero, List.set_cons_succ]
              refine wpAnyH_take (i := 2) (oi := ⟨_, _, _, _, _, _⟩) (v := ?_) rfl (by kernel_rfl) (by kernel_rfl) (by kernel_rfl) (fun _ _ _ h => h) (Or.inl ⟨by rfl, ?_⟩) (by assumption) ?_
              rotate_left
              · intro w hSw; (try dsimp only at hSw); first | (go_simp; done) | (go_simp; with_reducible rfl)
              try simp only [Act.put, List.setIfInBounds_toArray, List.set_cons_zero, List.set_cons_succ]
              refine wpAnyH_take (i := 3) (oi := ⟨_, _, _, _, _, _⟩) (v := ?_) rfl (by kernel_rfl) (by kernel_rfl) (by kernel_rfl) (fun _ _ _ h => h) (Or.inl ⟨by rfl, ?_⟩) (by assumption) ?_
              rotate_left
              · intro w hSw; (try dsimp only at hSw); first | (go_simp; done) | (go_simp; with_reducible rfl)
              try simp only [Act.put, List.setIfInBounds_toArray, List.set_cons_zero, List.set_cons_succ]
              refine wpAnyH_take (i := 4) (oi := ⟨_, _, _, _, _, _⟩) (v := ?_) rfl (by kernel_rfl) (by kernel_rfl) (by kernel_rfl) (fun _ _ _ h => h) (Or.inl ⟨by rfl, ?_⟩) (by assumption) ?_
              rotate_left
              · intro w hSw; (try dsimp only at hSw); first | (go_simp; done) | (go_simp; with_reducible rfl)
              try simp only [Act.put, List.setIfInBounds_toArray, List.set_cons_zero, List.set_cons_succ]
              refine wpAnyH_take (i := 5) (oi := ⟨_, _, _, _, _, _⟩) (v := ?_) rfl (by kernel_rfl) (by kernel_rfl) (by kernel_rfl) (fun _ _ _ h => h) (Or.inl ⟨by rfl, ?_⟩) (by assumption) ?_
              rotate_left
              · intro w hSw; (try dsimp only at hSw); first | (go_simp; done) | (go_simp; with_reducible rfl)
              try simp only [Act.put, List.setIfInBounds_toArray, List.set_cons_zero, List.set_cons_succ]
              refine wpAnyH_take (i := 6) (oi := ⟨_, _, _, _, _, _⟩) (v := ?_) rfl (by kernel_rfl) (by kernel_rfl) (by kernel_rfl) (fun _ _ _ h => h) (Or.inl ⟨by rfl, ?_⟩) (by assumption) ?_
              rotate_left
              · intro w hSw; (try dsimp only at hSw); first | (go_simp; done) | (go_simp; with_reducible rfl)
              try simp only [Act.put, List.setIfInBounds_toArray, List.set_cons_zero, List.set_cons_succ]
              refine wpAnyH_take (i := 7) (oi := ⟨_, _, _, _, _, _⟩) (v := ?_) rfl (by kernel_rfl) (by kernel_rfl) (by kernel_rfl) (fun _ _ _ h => h) (Or.inl ⟨by rfl, ?_⟩) (by assumption) ?_
              rotate_left
              · intro w hSw; (try dsimp only at hSw); first | (go_simp; done) | (go_simp; with_reducible rfl)
              try simp only [Act.put, List.setIfInBounds_toArray, List.set_cons_zero, List.set_cons_succ]
              refine wpAnyH_take (i := 8) (oi := ⟨_, _, _, _, _, _⟩) (v := ?_) rfl (by kernel_rfl) (by kernel_rfl) (by kernel_rfl) (fun _ _ _ h => h) (Or.inl ⟨by rfl, ?_⟩) (by assumption) ?_
              rotate_left
              · intro w hSw; (try dsimp only at hSw); first | (go_simp; done) | (go_simp; with_reducible rfl)
              try simp only [Act.put, List.setIfInBounds_toArray, List.set_cons_zero, List.set_cons_succ]
              refine wpAnyH_take (i := 9) (oi := ⟨_, _, _, _, _, _⟩) (v := ?_) rfl (by kernel_rfl) (by kernel_rfl) (by kernel_rfl) (fun _ _ _ h => h) (Or.inl ⟨by rfl, ?_⟩) (by assumption) ?_
              rotate_left
              · intro w hSw; (try dsimp only at hSw); first | (go_simp; done) | (go_simp; with_reducible rfl)
              try simp only [Act.put, List.setIfInBounds_toArray, List.set_cons_zero, List.set_cons_succ]
              refine wpAnyH_take (i := 10) (oi := ⟨_, _, _, _, _, _⟩) (v := ?_) rfl (by kernel_rfl) (by kernel_rfl) (by kernel_rfl) (fun _ _ _ h => h) (Or.inl ⟨by rfl, ?_⟩) (by assumption) ?_
              rotate_left
              · intro w hSw; (try dsimp only at hSw); first | (go_simp; done) | (go_simp; with_reducible rfl)
              try simp only [Act.put, List.setIfInBounds_toArray, List.set_cons_zero, List.set_cons_succ]
              refine wpAnyH_take (i := 11) (oi := ⟨_, _, _, _, _, _⟩) (v := ?_) rfl (by kernel_rfl) (by kernel_rfl) (by kernel_rfl) (fun _ _ _ h => h) (Or.inl ⟨by rfl, ?_⟩) (by assumption) ?_
              rotate_left
              · intro w hSw; (try dsimp only at hSw); first | (go_simp; done) | (go_simp; with_reducible rfl)
              try simp only [Act.put, List.setIfInBounds_toArray, List.set_cons_zero, List.set_cons_succ]
              refine wpAnyH_take (i := 12) (oi := ⟨_, _, _, _, _, _⟩) (v := ?_) rfl (by kernel_rfl) (by kernel_rfl) (by kernel_rfl) (fun _ _ _ h => h) (Or.inl ⟨by rfl, ?_⟩) (by assumption) ?_
              rotate_left
              · intro w hSw; (try dsimp only at hSw); first | (go_simp; done) | (go_simp; with_reducible rfl)
              try simp only [Act.put, List.setIfInBounds_toArray, List.set_cons_zero, List.set_cons_succ]
              refine wpAnyH_take (i := 13) (oi := ⟨_, _, _, _, _, _⟩) (v := ?_) rfl (by kernel_rfl) (by kernel_rfl) (by kernel_rfl) (fun _ _ _ h => h) (Or.inl ⟨by rfl, ?_⟩) (by assumption) ?_
              rotate_left
              · intro w hSw; (try dsimp only at hSw); first | (go_simp; done) | (go_simp; with_reducible rfl)
              try simp only [Act.put, List.setIfInBounds_toArray, List.set_cons_zero, List.set_cons_succ]
              refine wpAnyH_take (i := 14) (oi := ⟨_, _, _, _, _, _⟩) (v := ?_) rfl (by kernel_rfl) (by kernel_rfl) (by kernel_rfl) (fun _ _ _ h => h) (Or.inl ⟨by rfl, ?_⟩) (by assumption) ?_
              rotate_left
              · intro w hSw; (try dsimp only at hSw); first | (go_simp; done) | (go_simp; with_reducible rfl)
              try simp only [Act.put, List.setIfInBounds_toArray, List.set_cons_zero, List.set_cons_succ]
              refine wpAnyH_take (i := 15) (oi := ⟨_, _, _, _, _, _⟩) (v := ?_) rfl (by kernel_rfl) (by kernel_rfl) (by kernel_rfl) (fun _ _ _ h => h) (Or.inl ⟨by rfl, ?_⟩) (by assumption) ?_
              rotate_left
              · intro w hSw; (try dsimp only at hSw); first | (go_simp; done) | (go_simp; with_reducible rfl)
              try simp only [Act.put, List.setIfInBounds_toArray, List.set_cons_zero, List.set_cons_succ]
              refine wpAnyH_take (i := 18) (oi := ⟨_, _, _, _, _, _⟩) (v := ?_) rfl (by kernel_rfl) (by kernel_rfl) (by kernel_rfl) (fun _ _ _ h => h) (Or.inl ⟨by rfl, ?_⟩) (by assumption) ?_
              rotate_left
              · intro w hSw; (try dsimp only at hSw); first | (go_simp; done) | (go_simp; with_reducible rfl)
              try simp only [Act.put, List.setIfInBounds_toArray, List.set_cons_zero, List.set_cons_succ]
              refine wpAnyH_take (i := 19) (oi := ⟨_, _, _, _, _, _⟩) (v := ?_) rfl (by kernel_rfl) (by kernel_rfl) (by kernel_rfl) (fun _ _ _ h => h) (Or.inl ⟨by rfl, ?_⟩) (by assumption) ?_
              rotate_left
              · intro w hSw; (try dsimp only at hSw); first | (go_simp; done) | (go_simp; with_reducible rfl)
              try simp only [Act.put, List.setIfInBounds_toArray, List.set_cons_zero, List.set_cons_succ]
              refine wpAnyH_take (i := 20) (oi := ⟨_, _, _, _, _, _⟩) (v := ?_) rfl (by kernel_rfl) (by kernel_rfl) (by kernel_rfl) (fun _ _ _ h => h) (Or.inl ⟨by rfl, ?_⟩) (by assumption) ?_
              rotate_left
              · intro w hSw; (try dsimp only at hSw); first | (go_simp; done) | (go_simp; with_reducible rfl)
              try simp only [Act.put, List.setIfInBounds_toArray, List.set_cons_zero, List.set_cons_succ]
              refine wpAnyH_take (i := 21) (oi := ⟨_, _, _, _, _, _⟩) (v := ?_) rfl (by kernel_rfl) (by kernel_rfl) (by kernel_rfl) (fun _ _ _ h => h) (Or.inl ⟨by rfl, ?_⟩) (by assumption) ?_
              rotate_left
              · intro w hSw; (try dsimp only at hSw); first | (go_simp; done) | (go_simp; with_reducible rfl)
              try simp only [Act.put, List.setIfInBounds_toArray, List.set_cons_zero, List.set_cons_succ]
              refine wpAnyH_ready (rs := [16, 22]) (by kernel_rfl) (by simp) ?_
              refine AllReadyH.cons (o := ⟨_, _, _, _, _, _⟩) rfl (fun K hK => ?_) (AllReadyH.cons (o := ⟨_, _, _, _, _, _⟩) rfl (fun K hK => ?_) AllReadyH.nil)
              · go_simp
                refine any_stepC (fun wn12 hN => ?_)
                have Bwn12 : Hid (Below wq.heap.size wq wn12) := Lib.hid (by rw [hN]; exact BD0.out.alloc BD0.out.size _)
                have Rx : Hid (ChunksC (fun k => k < wn12.heap.size) wn12 (.slice (some ⟨wd.heap.size, 0, none⟩) 1 1) [x]) := Lib.hid (by rw [hN]; exact (chunks_one wd _ x (HBx.out _ BD0.out)).kept (fun k hk => ⟨by simpa using hk, rfl⟩))
                obtain ⟨zx, hz⟩ : ∃ q, wd.heap.size = q := ⟨_, rfl⟩
                rw [hz] at Rx ⊢
                clear hN hz BD0
                try go_wp2_with fail
                refine hK.out _ _ (by exact HG.out _ (Hid.out (by assumption))) (fun hHeld => ?_)
                clear hK K
                try simp only [Act.put, List.setIfInBounds_toArray, List.set_cons_zero, List.set_cons_succ]
                refine wpAnyH_ready (rs := [17, 22]) (by kernel_rfl) (by simp) ?_
                refine AllReadyH.cons (o := ⟨_, _, _, _, _, _⟩) rfl (fun K hK => ?_) (AllReadyH.cons (o := ⟨_, _, _, _, _, _⟩) rfl (fun K hK => ?_) AllReadyH.nil)
                · go_simp
                  refine (sum_any _ _ [x] wn12 (fun k hk => hk) Rx.out (by rw [HFx.out]; have := HLx.out; omega) (by simp) (HEV.out _ Bwn12.out)).mono ?_
                  rintro e wn13 ⟨rfl, hbs⟩
                  rw [HFx.out, HO1.out]
                  have Bwn13 : Hid (Below wq.heap.size wq wn13) := Lib.hid (Bwn12.out.trans (hbs.mono Bwn12.out.size))
                  clear hbs Bwn12 Rx
                  try go_wp2_with fail
                  refine hK.out _ _ (by exact HG.out _ (Hid.out (by assumption))) (fun hHeld => ?_)
                  clear hK K
                  try simp only [Act.put, List.setIfInBounds_toArray, List.set_cons_zero, List.set_cons_succ]
                  refine wpAnyH_ready (rs := [22]) (by kernel_rfl) (by simp) ?_
                  refine AllReadyH.cons (o := ⟨_, _, _, _, _, _⟩) rfl (fun K hK => ?_) AllReadyH.nil
                  go_simp
                  refine any_stepC (fun wn14 hN => ?_)
                  have Bwn14 : Hid (Below wq.heap.size wq wn14) := Lib.hid (by rw [hN]; exact Bwn13.out.alloc Bwn13.out.size _)
                  have Ry : Hid (ChunksC (fun k => k < wn14.heap.size) wn14 (.slice (some ⟨wn13.heap.size, 0, none⟩) 1 1) [y]) := Lib.hid (by rw [hN]; exact (chunks_one wn13 _ y (HBy.out _ Bwn13.out)).kept (fun k hk => ⟨by simpa using hk, rfl⟩))
                  obtain ⟨zy, hz⟩ : ∃ q, wn13.heap.size = q := ⟨_, rfl⟩
                  rw [hz] at Ry ⊢
                  clear hN hz Bwn13
                  try go_wp2_with fail
                  refine hK.out _ _ (by exact HG.out _ (Hid.out (by assumption))) (fun hHeld => ?_)
                  clear hK K
                  try simp only [Act.put, List.setIfInBounds_toArray, List.set_cons_zero, List.set_cons_succ]
                  refine wpAnyH_ready (rs := [23]) (by kernel_rfl) (by simp) ?_
                  refine AllReadyH.cons (o := ⟨_, _, _, _, _, _⟩) rfl (fun K hK => ?_) AllReadyH.nil
                  go_simp
                  refine (sum_any _ _ [y] wn14 (fun k hk => hk) Ry.out (by rw [HFy.out]; have := HLy.out; omega) (by simp) (HEV.out _ Bwn14.out)).mono ?_
                  rintro e wn15 ⟨rfl, hbs⟩
                  rw [HFy.out, HO2.out]
                  have Bwn15 : Hid (Below wq.heap.size wq wn15) := Lib.hid (Bwn14.out.trans (hbs.mono Bwn14.out.size))
                  clear hbs Bwn14 Ry
                  try go_wp2_with fail
                  refine hK.out _ _ (by exact HG.out _ (Hid.out (by assumption))) (fun hHeld => ?_)
                  clear hK K
                  try simp only [Act.put, List.setIfInBounds_toArray, List.set_cons_zero, List.set_cons_succ]
                  refine wpAnyH_take (i := 24) (oi := ⟨_, _, _, _, _, _⟩) (v := ?_) rfl (by kernel_rfl) (by kernel_rfl) (by kernel_rfl) (fun _ _ _ h => h) (Or.inl ⟨by rfl, ?_⟩) (by assumption) ?_
                  rotate_left
                  · intro w hSw; (try dsimp only at hSw); first | (go_simp; done) | (go_simp; with_reducible rfl)
                  try simp only [Act.put, List.setIfInBounds_toArray, List.set_cons_zero, List.set_cons_succ]
                  refine wpAnyH_take (i := 25) (oi := ⟨_, _, _, _, _, _⟩) (v := ?_) rfl (by kernel_rfl) (by kernel_rfl) (by kernel_rfl) (fun _ _ _ h => h) (Or.inl ⟨by rfl, ?_⟩) (by assumption) ?_
                  rotate_left
                  · intro w hSw; (try dsimp only at hSw); first | (go_simp; done) | (go_simp; with_reducible rfl)
                  try simp only [Act.put, List.setIfInBounds_toArray, List.set_cons_zero, List.set_cons_succ]
                  refine wpAnyH_done (by kernel_rfl) ?_ _
                  clear hHeld
                  go_wp2_with fail
                  go_roundw
                  case rel => exact ⟨k + 1, by have := HKI.out; omega, by go_num, BQ.out.trans (Bwn15.out.mono BQ.out.size), HNEXT⟩
                  case measure => have := HKI.out; simp only [intOf]; omega
                · go_simp
                  refine any_stepC (fun wn16 hN => ?_)
                  have Bwn16 : Hid (Below wq.heap.size wq wn16) := Lib.hid (by rw [hN]; exact Bwn12.out.alloc Bwn12.out.size _)
                  have Ry : Hid (ChunksC (fun k => k < wn16.heap.size) wn16 (.slice (some ⟨wn12.heap.size, 0, none⟩) 1 1) [y]) := Lib.hid (by rw [hN]; exact (chunks_one wn12 _ y (HBy.out _ Bwn12.out)).kept (fun k hk => ⟨by simpa using hk, rfl⟩))
                  have Rx' : Hid (ChunksC (fun k => k < wn16.heap.size) wn16 (.slice (some ⟨zx, 0, none⟩) 1 1) [x]) := Lib.hid (by rw [hN]; exact Rx.out.kept (fun k hk => ⟨by simp; omega, Below.heap_alloc _ _ _ hk⟩))
                  clear Rx
                  have Rx := Rx'
                  clear Rx'
                  obtain ⟨zy, hz⟩ : ∃ q, wn12.heap.size = q := ⟨_, rfl⟩
                  rw [hz] at Ry ⊢
                  clear hN hz Bwn12
                  try go_wp2_with fail
                  refine hK.out _ _ (by exact HG.out _ (Hid.out (by assumption))) (fun hHeld => ?_)
                  clear hK K
                  try simp only [Act.put, List.setIfInBounds_toArray, List.set_cons_zero, List.set_cons_succ]
                  refine wpAnyH_ready (rs := [17]) (by kernel_rfl) (by simp) ?_
                  refine AllReadyH.cons (o := ⟨_, _, _, _, _, _⟩) rfl (fun K hK => ?_) AllReadyH.nil
                  go_simp
                  refine (sum_any _ _ [x] wn16 (fun k hk => hk) Rx.out (by rw [HFx.out]; have := HLx.out; omega) (by simp) (HEV.out _ Bwn16.out)).mono ?_
                  rintro e wn17 ⟨rfl, hbs⟩
                  rw [HFx.out, HO1.out]
                  have Bwn17 : Hid (Below wq.heap.size wq wn17) := Lib.hid (Bwn16.out.trans (hbs.mono Bwn16.out.size))
                  have Ry' : Hid (ChunksC (fun k => k < wn17.heap.size) wn17 (.slice (some ⟨zy, 0, none⟩) 1 1) [y]) := Lib.hid (Ry.out.kept (fun k hk => ⟨Nat.lt_of_lt_of_le hk hbs.size, hbs.block k hk⟩))
                  clear Ry
                  have Ry := Ry'
                  clear Ry'
                  clear hbs Bwn16 Rx
                  try go_wp2_with fail
                  refine hK.out _ _ (by exact HG.out _ (Hid.out (by assumption))) (fun hHeld => ?_)
                  clear hK K
                  try simp only [Act.put, List.setIfInBounds_toArray, List.set_cons_zero, List.set_cons_succ]
                  refine wpAnyH_ready (rs := [23]) (by kernel_rfl) (by simp) ?_
                  refine AllReadyH.cons (o := ⟨_, _, _, _, _, _⟩) rfl (fun K hK => ?_) AllReadyH.nil
                  go_simp
                  refine (sum_any _ _ [y] wn17 (fun k hk => hk) Ry.out (by rw [HFy.out]; have := HLy.out; omega) (by simp) (HEV.out _ Bwn17.out)).mono ?_
                  rintro e wn18 ⟨rfl, hbs⟩
                  rw [HFy.out, HO2.out]
                  have Bwn18 : Hid (Below wq.heap.size wq wn18) := Lib.hid (Bwn17.out.trans (hbs.mono Bwn17.out.size))
                  clear hbs Bwn17 Ry
                  try go_wp2_with fail
                  refine hK.out _ _ (by exact HG.out _ (Hid.out (by assumption))) (fun hHeld => ?_)
                  clear hK K
                  try simp only [Act.put, List.setIfInBounds_toArray, List.set_cons_zero, List.set_cons_succ]
                  refine wpAnyH_take (i := 24) (oi := ⟨_, _, _, _, _, _⟩) (v := ?_) rfl (by kernel_rfl) (by kernel_rfl) (by kernel_rfl) (fun _ _ _ h => h) (Or.inl ⟨by rfl, ?_⟩) (by assumption) ?_
                  rotate_left
                  · intro w hSw; (try dsimp only at hSw); first | (go_simp; done) | (go_simp; with_reducible rfl)
                  try simp only [Act.put, List.setIfInBounds_toArray, List.set_cons_zero, List.set_cons_succ]
                  refine wpAnyH_take (i := 25) (oi := ⟨_, _, _, _, _, _⟩) (v := ?_) rfl (by kernel_rfl) (by kernel_rfl) (by kernel_rfl) (fun _ _ _ h => h) (Or.inl ⟨by rfl, ?_⟩) (by assumption) ?_
                  rotate_left
                  · intro w hSw; (try dsimp only at hSw); first | (go_simp; done) | (go_simp; with_reducible rfl)
                  try simp only [Act.put, List.setIfInBounds_toArray, List.set_cons_zero, List.set_cons_succ]
                  refine wpAnyH_done (by kernel_rfl) ?_ _
                  clear hHeld
                  go_wp2_with fail
                  go_roundw
                  case rel => exact ⟨k + 1, by have := HKI.out; omega, by go_num, BQ.out.trans (Bwn18.out.mono BQ.out.size), HNEXT⟩
                  case measure => have := HKI.out; simp only [intOf]; omega
              · go_simp
                refine any_stepC (fun wn19 hN => ?_)
                have Bwn19 : Hid (Below wq.heap.size wq wn19) := Lib.hid (by rw [hN]; exact BD0.out.alloc BD0.out.size _)
                have Ry : Hid (ChunksC (fun k => k < wn19.heap.size) wn19 (.slice (some ⟨wd.heap.size, 0, none⟩) 1 1) [y]) := Lib.hid (by rw [hN]; exact (chunks_one wd _ y (HBy.out _ BD0.out)).kept (fun k hk => ⟨by simpa using hk, rfl⟩))
                obtain ⟨zy, hz⟩ : ∃ q, wd.heap.size = q := ⟨_, rfl⟩
                rw [hz] at Ry ⊢
                clear hN hz BD0
                try go_wp2_with fail
                refine hK.out _ _ (by exact HG.out _ (Hid.out (by assumption))) (fun hHeld => ?_)
                clear hK K
                try simp only [Act.put, List.setIfInBounds_toArray, List.set_cons_zero, List.set_cons_succ]
                refine wpAnyH_ready (rs := [16]) (by kernel_rfl) (by simp) ?_
                refine AllReadyH.cons (o := ⟨_, _, _, _, _, _⟩) rfl (fun K hK => ?_) AllReadyH.nil
                go_simp
                refine any_stepC (fun wn20 hN => ?_)
                have Bwn20 : Hid (Below wq.heap.size wq wn20) := Lib.hid (by rw [hN]; exact Bwn19.out.alloc Bwn19.out.size _)
                have Rx : Hid (ChunksC (fun k => k < wn20.heap.size) wn20 (.slice (some ⟨wn19.heap.size, 0, none⟩) 1 1) [x]) := Lib.hid (by rw [hN]; exact (chunks_one wn19 _ x (HBx.out _ Bwn19.out)).kept (fun k hk => ⟨by simpa using hk, rfl⟩))
                have Ry' : Hid (ChunksC (fun k => k < wn20.heap.size) wn20 (.slice (some ⟨zy, 0, none⟩) 1 1) [y]) := Lib.hid (by rw [hN]; exact Ry.out.kept (fun k hk => ⟨by simp; omega, Below.heap_alloc _ _ _ hk⟩))
                clear Ry
                have Ry := Ry'
                clear Ry'
                obtain ⟨zx, hz⟩ : ∃ q, wn19.heap.size = q := ⟨_, rfl⟩
                rw [hz] at Rx ⊢
                clear hN hz Bwn19
                try go_wp2_with fail
                refine hK.out _ _ (by exact HG.out _ (Hid.out (by assumption))) (fun hHeld => ?_)
                clear hK K
                try simp only [Act.put, List.setIfInBounds_toArray, List.set_cons_zero, List.set_cons_succ]
                refine wpAnyH_ready (rs := [17]) (by kernel_rfl) (by simp) ?_
                refine AllReadyH.cons (o := ⟨_, _, _, _, _, _⟩) rfl (fun K hK => ?_) AllReadyH.nil
                go_simp
                refine (sum_any _ _ [x] wn20 (fun k hk => hk) Rx.out (by rw [HFx.out]; have := HLx.out; omega) (by simp) (HEV.out _ Bwn20.out)).mono ?_
                rintro e wn21 ⟨rfl, hbs⟩
                rw [HFx.out, HO1.out]
                have Bwn21 : Hid (Below wq.heap.size wq wn21) := Lib.hid (Bwn20.out.trans (hbs.mono Bwn20.out.size))
                have Ry' : Hid (ChunksC (fun k => k < wn21.heap.size) wn21 (.slice (some ⟨zy, 0, none⟩) 1 1) [y]) := Lib.hid (Ry.out.kept (fun k hk => ⟨Nat.lt_of_lt_of_le hk hbs.size, hbs.block k hk⟩))
                clear Ry
                have Ry := Ry'
                clear Ry'
                clear hbs Bwn20 Rx
                try go_wp2_with fail
                refine hK.out _ _ (by exact HG.out _ (Hid.out (by assumption))) (fun hHeld => ?_)
                clear hK K
                try simp only [Act.put, List.setIfInBounds_toArray, List.set_cons_zero, List.set_cons_succ]
                refine wpAnyH_ready (rs := [23]) (by kernel_rfl) (by simp) ?_
                refine AllReadyH.cons (o := ⟨_, _, _, _, _, _⟩) rfl (fun K hK => ?_) AllReadyH.nil
                go_simp
                refine (sum_any _ _ [y] wn21 (fun k hk => hk) Ry.out (by rw [HFy.out]; have := HLy.out; omega) (by simp) (HEV.out _ Bwn21.out)).mono ?_
                rintro e wn22 ⟨rfl, hbs⟩
                rw [HFy.out, HO2.out]
                have Bwn22 : Hid (Below wq.heap.size wq wn22) := Lib.hid (Bwn21.out.trans (hbs.mono Bwn21.out.size))
                clear hbs Bwn21 Ry
                try go_wp2_with fail
                refine hK.out _ _ (by exact HG.out _ (Hid.out (by assumption))) (fun hHeld => ?_)
                clear hK K
                try simp only [Act.put, List.setIfInBounds_toArray, List.set_cons_zero, List.set_cons_succ]
                refine wpAnyH_take (i := 24) (oi := ⟨_, _, _, _, _, _⟩) (v := ?_) rfl (by kernel_rfl) (by kernel_rfl) (by kernel_rfl) (fun _ _ _ h => h) (Or.inl ⟨by rfl, ?_⟩) (by assumption) ?_
                rotate_left
                · intro w hSw; (try dsimp only at hSw); first | (go_simp; done) | (go_simp; with_reducible rfl)
                try simp only [Act.put, List.setIfInBounds_toArray, List.set_cons_zero, List.set_cons_succ]
                refine wpAnyH_take (i := 25) (oi := ⟨_, _, _, _, _, _⟩) (v := ?_) rfl (by kernel_rfl) (by kernel_rfl) (by kernel_rfl) (fun _ _ _ h => h) (Or.inl ⟨by rfl, ?_⟩) (by assumption) ?_
                rotate_left
                · intro w hSw; (try dsimp only at hSw); first | (go_simp; done) | (go_simp; with_reducible rfl)
                try simp only [Act.put, List.setIfInBounds_toArray, List.set_cons_zero, List.set_cons_succ]
                refine wpAnyH_done (by kernel_rfl) ?_ _
                clear hHeld
                go_wp2_with fail
                go_roundw
                case rel => exact ⟨k + 1, by have := HKI.out; omega, by go_num, BQ.out.trans (Bwn22.out.mono BQ.out.size), HNEXT⟩
                case measure => have := HKI.out; simp only [intOf]; omega
        · have hd3 : decide ((k : Int) < (i : Int)) = false := decide_eq_false (by omega)
          have hd4 : decide (k < i) = false := decide_eq_false hki
          obtain rfl : k = i := by omega
          go_wp2_with fail
          go_roundw
          case rel =>
            refine ⟨k + 1, by omega, by go_num, BQ.out, fun j q x y h1 h2 h3 h4 h5 => ?_⟩
            by_cases hjk : j < k
            · exact HP.out j q x y h1 hjk h3 h4 h5
            · have e : j = k := by omega
              subst e
              exact HRT.out q x y h1 h3 h4 h5
          case measure => simp only [intOf]; omega
    · have hd : decide ((i : Int) < (n : Int)) = false := decide_eq_false (by omega)
      have hd2 : decide (i < n) = false := decide_eq_false hlt
      obtain rfl : i = n := by omega
      go_wp2_with fail
      go_ret
      exact ⟨false, rfl, B.out, fun _ => (by rw [HN.out]; exact HP.out : PairsTo ls ls.length).all⟩
end Go.Proofs.YtgknihcpmpfocaaDoor
