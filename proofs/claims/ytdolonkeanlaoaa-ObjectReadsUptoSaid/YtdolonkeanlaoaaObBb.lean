/- The walks of the laws' commit and commits. -/
import Derived.Test.YtdolonkeanlaoaaObBa
namespace Go.Proofs.Ytdolonkeanlaoaa
open Go.RowKit
attribute [local simp high] id_size id_zero com_size com_zero n32_ne n36_ne

theorem rcom_size (w : World) : (sizeOf 46).run Try.prog w = .ok n36 w := by rw [Try.sizeOf46]; rfl
theorem rcom_agg (w : World) : (isAgg 46).run Try.prog w = .ok true w := by rw [Try.isAgg46]
theorem rcom_zero (w : World) : (zeroValue 46).run Try.prog w = .ok (.agg (rowL n36 (comF zeros none 0 0 0 [] [])).toArray) w := by rw [Try.zeroValue46]; kernel_rfl
attribute [local simp high] rcom_size rcom_zero
theorem com_all_f (a : Option Addr) (n c s : Nat) (au no : List UInt8) (f : Nat → UInt8) : ((((List.foldl (fun (cs : Array Value) (x : Value × Nat) => cs.setIfInBounds x.2 x.1) (rowL n36 (comF zeros none 0 0 0 [] [])).toArray (bv (idL f)).zipIdx).setIfInBounds 32 (.slice a n c)).setIfInBounds 33 (.float .f64 s)).setIfInBounds 34 (.string ⟨au.toArray⟩)).setIfInBounds 35 (.string ⟨no.toArray⟩) = (rowL n36 (comF (idL f) a n c s au no)).toArray := by kernel_rfl
theorem com_all (a : Option Addr) (n c s : Nat) (au no X : List UInt8) (hX : X.length = 32) : ((((List.foldl (fun (cs : Array Value) (x : Value × Nat) => cs.setIfInBounds x.2 x.1) (rowL n36 (comF zeros none 0 0 0 [] [])).toArray (bv X).zipIdx).setIfInBounds 32 (.slice a n c)).setIfInBounds 33 (.float .f64 s)).setIfInBounds 34 (.string ⟨au.toArray⟩)).setIfInBounds 35 (.string ⟨no.toArray⟩) = (rowL n36 (comF X a n c s au no)).toArray := by
  rw [idL_of hX]; exact com_all_f a n c s au no _
theorem com_fsizes (X : List UInt8) (hX : X.length = 32) (k : Nat) (hk : k ≤ 36) : ((List.foldl (fun (cs : Array Value) (x : Value × Nat) => cs.setIfInBounds x.2 x.1) (rowL n36 (comF zeros none 0 0 0 [] [])).toArray (bv X).zipIdx).size < k) = False := by
  rw [idL_of hX, com_fsize_f]; simp; exact hk
set_option maxRecDepth 100000 in
set_option maxHeartbeats 2000000 in
theorem lcommit_any (X : List UInt8) (a : Option Addr) (n c s : Nat) (au no : List UInt8) (w : World) (hX : X.length = 32) :
    Calls Try.prog 16 #[.agg (rowL n36 (comF X a n c s au no)).toArray] w fun e w' => e = .returned (.agg (rowL n36 (comF X a n c s au no)).toArray) ∧ Below w.heap.size w w' := by
  obtain ⟨G, hG⟩ : ∃ G : Nat → Value, G = comF X a n c s au no := ⟨_, rfl⟩
  have h1 : OneC n36 G := by rw [hG]; exact com_one _ _ _ _ _ _ _ _
  have hol := rowL_len n36 G
  have holz := rowL_len n36 (comF zeros none 0 0 0 [] [])
  obtain ⟨w1, hw1⟩ : ∃ w1, w1 = w.alloc (.cells (rowL n36 G).toArray 30) := ⟨_, rfl⟩
  have R1 : RF w1 w.heap.size 30 n36 G := by rw [hw1]; exact RF.new _ _ _ _
  have HB1 := Lib.hid (show Below w.heap.size w w1 by rw [hw1]; exact (Below.refl _ w).alloc (Nat.le_refl _) _)
  obtain ⟨w2, hw2⟩ : ∃ w2, w2 = w1.alloc (.cells (rowL n36 (comF zeros none 0 0 0 [] [])).toArray 46) := ⟨_, rfl⟩
  have R2 : RF w2 w1.heap.size 46 n36 (comF zeros none 0 0 0 [] []) := by rw [hw2]; exact RF.new _ _ _ _
  have hz1 : w1.heap.size = w.heap.size + 1 := by rw [hw1]; simp
  rw [hz1] at R2
  have R1' : RF w2 w.heap.size 30 n36 G := R1.kept (by rw [hw2]; exact Below.heap_alloc _ _ _ R1.lt)
  have st0 := R2.write h1
  have R3 := R2.put G
  have HR3 := Lib.hid R3
  have HB3 : Hid (Below w.heap.size w (w2.setRow (w.heap.size + 1) (rowL n36 G).toArray)) := Lib.hid (below_setRow (by rw [hw2]; exact HB1.out.alloc HB1.out.size _) (by omega) _)
  have lX : (loadCellsFrom ⟨w.heap.size, 0, none⟩ 0 n32 #[]).run Try.prog w2 = .ok (bv X).toArray w2 := by
    have := R1'.load (o := 0) (m := n32) (by unfold n36 n32; omega)
    rw [show (fun j => G (0 + j)) = fun j => comF X a n c s au no j from by rw [hG]; funext j; rw [Nat.zero_add], com_tree hX] at this
    exact this
  have c32 : w2.cell? ⟨w.heap.size, 32, none⟩ = some (.slice a n c) := by rw [R1'.cell (k := 32) (by unfold n36; omega), hG]; rfl
  have c33 : w2.cell? ⟨w.heap.size, 33, none⟩ = some (.float .f64 s) := by rw [R1'.cell (k := 33) (by unfold n36; omega), hG]; rfl
  have c34 : w2.cell? ⟨w.heap.size, 34, none⟩ = some (.string ⟨au.toArray⟩) := by rw [R1'.cell (k := 34) (by unfold n36; omega), hG]; rfl
  have c35 : w2.cell? ⟨w.heap.size, 35, none⟩ = some (.string ⟨no.toArray⟩) := by rw [R1'.cell (k := 35) (by unfold n36; omega), hG]; rfl
  have hfo := com_all a n c s au no X hX
  rw [← hG] at hfo ⊢
  have hne := com_ne
  have hlt5 := com_lt
  have hf3 := com_fsizes X hX 33 (by omega)
  have hf4 := com_fsizes X hX 34 (by omega)
  have hf5 := com_fsizes X hX 35 (by omega)
  have hf6 := com_fsizes X hX 36 (by omega)
  have hbl : (bv X).length = n32 := by rw [bv_len, hX]; rfl
  have HW1 := Lib.hid hw1
  have HW2 := Lib.hid hw2
  clear R1 R2 R1' R3 hz1 hG hX hw1 hw2
  go_enter Try.func16, Try.ntmps16
  go_upto_region 1 with fail
  rw [← HW1.out, ← HW2.out]
  go_wp2_with fail
  exact bodyPost_ret (results_one Try.results16 _ _ rfl (HR3.out.var (rcom_agg _) (rcom_size _))) rfl ⟨rfl, HB3.out⟩
set_option maxRecDepth 100000 in
set_option maxHeartbeats 4000000 in
theorem lcommits_any (S S' : Nat → Prop) (X : List UInt8) (I : List (List UInt8)) (a a' : Option Addr) (n c c' s : Nat) (au no : List UInt8) (w : World) (hX : X.length = 32) (hS : ∀ k, S k → k < w.heap.size) (hS' : ∀ k, S' k → k < w.heap.size) (hn : I.length = n) (hm : n ≤ 1048576) (hI : IDsC S w (.slice a n c) I) (hI' : IDsC S' w (.slice a' n c') I) :
    Calls Try.prog 31 #[.agg (rowL n36 (comF X a n c s au no)).toArray, .agg (rowL n36 (comF X a' n c' s au no)).toArray] w fun e w' => e = .returned (.bool true) ∧ Below w.heap.size w w' := by
  obtain ⟨G, hG⟩ : ∃ G : Nat → Value, G = comF X a n c s au no := ⟨_, rfl⟩
  obtain ⟨H, hH⟩ : ∃ H : Nat → Value, H = comF X a' n c' s au no := ⟨_, rfl⟩
  have hol := rowL_len n36 G
  have hol2 := rowL_len n36 H
  obtain ⟨w1, hw1⟩ : ∃ w1, w1 = w.alloc (.cells (rowL n36 G).toArray 46) := ⟨_, rfl⟩
  have R1 : RF w1 w.heap.size 46 n36 G := by rw [hw1]; exact RF.new _ _ _ _
  have HB1 := Lib.hid (show Below w.heap.size w w1 by rw [hw1]; exact (Below.refl _ w).alloc (Nat.le_refl _) _)
  have hz1 : w1.heap.size = w.heap.size + 1 := by rw [hw1]; simp
  obtain ⟨w2, hw2⟩ : ∃ w2, w2 = w1.alloc (.cells (rowL n36 H).toArray 46) := ⟨_, rfl⟩
  have R2 : RF w2 w1.heap.size 46 n36 H := by rw [hw2]; exact RF.new _ _ _ _
  rw [hz1] at R2
  have R1' : RF w2 w.heap.size 46 n36 G := R1.kept (by rw [hw2]; exact Below.heap_alloc _ _ _ R1.lt)
  have HB2 : Hid (Below w.heap.size w w2) := Lib.hid (by rw [hw2]; exact HB1.out.alloc HB1.out.size _)
  have lX : ∀ nq, (loadCellsFrom ⟨w.heap.size, 0, none⟩ 0 n32 #[]).run Try.prog (w2.drewN nq) = .ok (bv X).toArray (w2.drewN nq) := fun nq => by
    have := (R1'.kept (w' := w2.drewN nq) rfl).load (o := 0) (m := n32) (by unfold n36 n32; omega)
    rw [show (fun j => G (0 + j)) = fun j => comF X a n c s au no j from by rw [hG]; funext j; rw [Nat.zero_add], com_tree hX] at this
    exact this
  have lY : ∀ nq, (loadCellsFrom ⟨w.heap.size + 1, 0, none⟩ 0 n32 #[]).run Try.prog (w2.drewN nq) = .ok (bv X).toArray (w2.drewN nq) := fun nq => by
    have := (R2.kept (w' := w2.drewN nq) rfl).load (o := 0) (m := n32) (by unfold n36 n32; omega)
    rw [show (fun j => H (0 + j)) = fun j => comF X a' n c' s au no j from by rw [hH]; funext j; rw [Nat.zero_add], com_tree hX] at this
    exact this
  have c32 : w2.cell? ⟨w.heap.size, 32, none⟩ = some (.slice a n c) := by rw [R1'.cell (k := 32) (by unfold n36; omega), hG]; rfl
  have c33 : w2.cell? ⟨w.heap.size, 33, none⟩ = some (.float .f64 s) := by rw [R1'.cell (k := 33) (by unfold n36; omega), hG]; rfl
  have c34 : w2.cell? ⟨w.heap.size, 34, none⟩ = some (.string ⟨au.toArray⟩) := by rw [R1'.cell (k := 34) (by unfold n36; omega), hG]; rfl
  have c35 : w2.cell? ⟨w.heap.size, 35, none⟩ = some (.string ⟨no.toArray⟩) := by rw [R1'.cell (k := 35) (by unfold n36; omega), hG]; rfl
  have d32 : w2.cell? ⟨w.heap.size + 1, 32, none⟩ = some (.slice a' n c') := by rw [R2.cell (k := 32) (by unfold n36; omega), hH]; rfl
  have d33 : w2.cell? ⟨w.heap.size + 1, 33, none⟩ = some (.float .f64 s) := by rw [R2.cell (k := 33) (by unfold n36; omega), hH]; rfl
  have d34 : w2.cell? ⟨w.heap.size + 1, 34, none⟩ = some (.string ⟨au.toArray⟩) := by rw [R2.cell (k := 34) (by unfold n36; omega), hH]; rfl
  have d35 : w2.cell? ⟨w.heap.size + 1, 35, none⟩ = some (.string ⟨no.toArray⟩) := by rw [R2.cell (k := 35) (by unfold n36; omega), hH]; rfl
  have heq : ∀ W, (binOp .eql 27 (.agg (bv X).toArray) (.agg (bv X).toArray)).run Try.prog W = .ok (.bool true) W := fun W => by have h := id_eql W hX hX; simpa using h
  have HQ : Hid (∀ m, Calls Try.prog 29 #[.slice a n c, .slice a' n c'] (w2.drewN m) fun e w'' => e = .returned (.bool true) ∧ ∃ q, w'' = w2.drewN q) := Lib.hid (fun m => quiet_d (by
    have h := sames_any S S' (.slice a n c) (.slice a' n c') I I (w2.drewN m) (hI.kept (fun q hq => ⟨hq, HB2.out.block q (hS q hq)⟩)) (hI'.kept (fun q hq => ⟨hq, HB2.out.block q (hS' q hq)⟩)) (by omega) (by omega)
    simpa using h))
  have h19 := fb19 s
  have HW1 := Lib.hid hw1
  have HW2 := Lib.hid hw2
  rw [← hG, ← hH]
  clear R1 R2 R1' hz1 hG hH hX hw1 hw2 hI hI' hn hS hS'
  go_enter Try.func31, Try.ntmps31
  go_upto_region 1 with fail
  rw [← HW1.out, ← HW2.out]
  go_quiet ((first | (go_at_call 29; exact HQ.out _) | fail))
  go_wp2_with fail
  go_ret
  exact ⟨rfl, HB2.out.trans ((drewn _ _ _).mono HB2.out.size)⟩
end Go.Proofs.Ytdolonkeanlaoaa
