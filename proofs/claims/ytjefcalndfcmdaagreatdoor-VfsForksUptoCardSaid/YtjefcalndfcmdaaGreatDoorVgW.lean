/- The laws' same: has a file system just the reference's files? -/
import Derived.Test.YtjefcalndfcmdaaGreatDoorVgV
import Derived.Test.YtjefcalndfcmdaaGreatDoorVfP
import Derived.BigQuiet
namespace Go.Proofs.YtjefcalndfcmdaaGreatDoor
open Go.RowKit Go.Maps
attribute [local go_sem ↓] Go.wp_at_zero Go.wp_at_succ
set_option maxRecDepth 100000 in
set_option maxHeartbeats 8000000 in
theorem same_core {w : World} {bf : Nat} {s : Fs} (hGU : ∀ W : World, Below w.heap.size w W → Calls Tryz.prog 35 #[.pointer (some ⟨bf, 0, none⟩)] W fun e w' => e = .returned (.int .i64 (used s : Int)) ∧ W = w')
    (hGL : ∀ W : World, Below w.heap.size w W → Calls Tryz.prog 23 #[.pointer (some ⟨bf, 0, none⟩)] W fun e w' => ∃ n, e = .returned (.int .i64 ((s.room : Int) - (used s : Int))) ∧ w' = W.drewN n)
    (hGI : ∀ W : World, Below w.heap.size w W → Calls Tryz.prog 24 #[.pointer (some ⟨bf, 0, none⟩)] W (ListP W (s.now.map (·.1))))
    (hGR : ∀ (W : World), Below w.heap.size w W → ∀ x : Nm, x.length ≤ 4194304 → Calls Tryz.prog 21 #[.pointer (some ⟨bf, 0, none⟩), .string ⟨x.toArray⟩] W (ReadP W (readS s x).1 (readS s x).2))
    (hB : Bd s) (S : Nat → Prop) (v : Value) (h : FsV S w v s) (hS : ∀ k, S k → k < w.heap.size) :
    Calls Tryz.prog 12 #[.pointer (some ⟨bf, 0, none⟩), v] w fun e w' => e = .returned (.bool true) ∧ Below w.heap.size w w' := by
  obtain ⟨af, an, az, aa, cf, cn, cs, ca, rfl, hR⟩ := h.shape
  clear h
  have hul : used s ≤ 70368744177664 := by
    have h1 := usedD_le (fun f hf => (hB.ok.dat f hf).2) s.now
    have h2 := hB.ok.nowLen
    have h3 := hB.st
    unfold used
    omega
  have hrm := hB.ok.room
  have hnl : s.now.length ≤ 4194304 := by have h1 := hB.ok.nowLen; have h2 := hB.st; omega
  have HUS := Lib.hid (fun (W : World) (hbe : Below w.heap.size w W) => rused_any S af an az aa cf cn cs ca (s.room : Int) (s.steps : Int) (lim s) s W (hR.kept (fun k hk => ⟨hk, hbe.block k (hS k hk)⟩)) (fun k hk => Nat.lt_of_lt_of_le (hS k hk) hbe.size) hul hB.ok.nowOk.lt hnl (by have h1 := hB.fl; have h2 := hB.st; omega))
  have HGU := Lib.hid hGU
  have HGL := Lib.hid hGL
  have HGI := Lib.hid hGI
  have HGR := Lib.hid hGR
  have HR := Lib.hid hR
  have HS := Lib.hid hS
  have HB := Lib.hid hB
  obtain ⟨us, hus⟩ : ∃ q, used s = q := ⟨_, rfl⟩
  rw [hus] at HUS HGU HGL hul
  have hw1 : IntKind.i64.wrap ((s.room : Int) - (us : Int)) = (s.room : Int) - (us : Int) := IntWalk.i64_in _ (by omega)
  obtain ⟨hX, hb⟩ := one_box w (.slice af s.files.length cf) (.slice an s.now.length cn) (.slice az s.sure.length cs) (.slice aa s.acts.length ca) (s.room : Int) (s.steps : Int) (lim s)
  have HX := Lib.hid hX
  have HB2 := Lib.hid hb
  have HZ2 : Hid ((w.alloc (.cells (fsV (.slice af s.files.length cf) (.slice an s.now.length cn) (.slice az s.sure.length cs) (.slice aa s.acts.length ca) (s.room : Int) (s.steps : Int) (lim s)) 33)).heap.size = w.heap.size + 1) := Lib.hid (by simp)
  clear hGU hGL hGI hGR hB hR hS hus hX hb
  unfold fsV at HUS HX HB2 HZ2 ⊢
  go_enter Tryz.func12, Tryz.ntmps12
  go_upto_region 1 with fail
  generalize w.alloc (.cells #[.slice af s.files.length cf, .slice an s.now.length cn, .slice az s.sure.length cs, .slice aa s.acts.length ca, .int .i64 (s.room : Int), .int .i64 (s.steps : Int), .int .i64 (lim s)] 33) = w2 at *
  have HL1 := Lib.hid (HGI.out w2 HB2.out)
  clear HGI
  go_wp2_with fail
  refine HL1.out.mono ?_
  rintro e w3 ⟨vl, rfl, o3, b3⟩
  clear HL1
  have HO3 : Hid (StrsC (fun k => w2.heap.size ≤ k ∧ k < w3.heap.size) w3 vl (s.now.map (·.1))) := Lib.hid (ownS_c (show OwnS w3 w2.heap.size vl (s.now.map (·.1)) from o3))
  have B3 := Lib.hid (HB2.out.trans (b3.mono (by have := HZ2.out; omega)))
  have Z3 : Hid (w.heap.size + 1 ≤ w3.heap.size) := Lib.hid (by have := HZ2.out; have := b3.size; omega)
  have HX3 := Lib.hid (HX.out.kept (b3.block _ (by have := HZ2.out; omega)))
  clear o3 b3 HX HB2
  obtain ⟨la, lc, rfl⟩ := CellsC.shape HO3.out
  have hlen : (s.now.map (·.1)).length = s.now.length := List.length_map ..
  rw [hlen] at HO3 ⊢
  clear hlen
  have HQ := Lib.hid (fun (W : World) (c : Below w3.heap.size w3 W) => And.intro (B3.out.trans (c.mono (by have := Z3.out; omega))) (HX3.out.kept (c.block _ (by have := Z3.out; omega))))
  have HOL : Hid (∀ W : World, Below w3.heap.size w3 W → CellsC (fun _ => True) W (.slice la s.now.length lc) s.now.length 1 (sv (s.now.map (·.1)))) := Lib.hid (fun W c => by
    have h := CellsC.kept HO3.out (S' := fun _ => True) (w' := W) (fun k hk => ⟨trivial, c.block k hk.2⟩)
    rw [List.length_map] at h
    exact h)
  have HRL := Lib.hid (fun (W : World) (c : Below w3.heap.size w3 W) => HR.out.kept (S' := S) (w' := W) (fun k hk => ⟨hk, (B3.out.trans (c.mono (by have := Z3.out; omega))).block k (HS.out k hk)⟩))
  clear HX3 Z3 B3 HO3
  go_upto_region 2 with fail
  have C0 := Lib.hid (drewn w3.heap.size w3 1)
  have hwd : w3.drewN 1 = w3.drew := rfl
  rw [hwd] at C0
  clear hwd
  refine wp_region_D 22 (fun W => W.cell? ⟨w.heap.size, 0, none⟩ = some (.slice af s.files.length cf) ∧ W.cell? ⟨w.heap.size, 1, none⟩ = some (.slice an s.now.length cn) ∧ W.cell? ⟨w.heap.size, 2, none⟩ = some (.slice az s.sure.length cs) ∧ W.cell? ⟨w.heap.size, 3, none⟩ = some (.slice aa s.acts.length ca) ∧ W.cell? ⟨w.heap.size, 4, none⟩ = some (.int .i64 (s.room : Int)) ∧ W.cell? ⟨w.heap.size, 5, none⟩ = some (.int .i64 (s.steps : Int)) ∧ W.cell? ⟨w.heap.size, 6, none⟩ = some (.int .i64 (lim s))) (by kernel_rfl) (by kernel_rfl) (by kernel_rfl) ?_
  have hSd := (HQ.out _ C0.out).2.cells
  refine wpAnyD_take (i := 0) (oi := ⟨_, _, _, _, _, _⟩) (v := ?_) rfl (by kernel_rfl) (by kernel_rfl) (by kernel_rfl) (by kernel_rfl) (fun _ _ _ h => h) (fun _ _ h => h) (Or.inl (Or.inl ⟨by rfl, ?_⟩)) hSd ?_
  rotate_left
  · intro W hSw; (try dsimp only at hSw); first | (go_simp; done) | (go_simp; with_reducible rfl)
  try simp only [Act.put, List.setIfInBounds_toArray, List.set_cons_zero, List.set_cons_succ]
  refine wpAnyD_take (i := 1) (oi := ⟨_, _, _, _, _, _⟩) (v := ?_) rfl (by kernel_rfl) (by kernel_rfl) (by kernel_rfl) (by kernel_rfl) (fun _ _ _ h => h) (fun _ _ h => h) (Or.inl (Or.inl ⟨by rfl, ?_⟩)) hSd ?_
  rotate_left
  · intro W hSw; (try dsimp only at hSw); first | (go_simp; done) | (go_simp; with_reducible rfl)
  try simp only [Act.put, List.setIfInBounds_toArray, List.set_cons_zero, List.set_cons_succ]
  refine wpAnyD_take (i := 2) (oi := ⟨_, _, _, _, _, _⟩) (v := ?_) rfl (by kernel_rfl) (by kernel_rfl) (by kernel_rfl) (by kernel_rfl) (fun _ _ _ h => h) (fun _ _ h => h) (Or.inl (Or.inl ⟨by rfl, ?_⟩)) hSd ?_
  rotate_left
  · intro W hSw; (try dsimp only at hSw); first | (go_simp; done) | (go_simp; with_reducible rfl)
  try simp only [Act.put, List.setIfInBounds_toArray, List.set_cons_zero, List.set_cons_succ]
  refine wpAnyD_take (i := 3) (oi := ⟨_, _, _, _, _, _⟩) (v := ?_) rfl (by kernel_rfl) (by kernel_rfl) (by kernel_rfl) (by kernel_rfl) (fun _ _ _ h => h) (fun _ _ h => h) (Or.inl (Or.inl ⟨by rfl, ?_⟩)) hSd ?_
  rotate_left
  · intro W hSw; (try dsimp only at hSw); first | (go_simp; done) | (go_simp; with_reducible rfl)
  try simp only [Act.put, List.setIfInBounds_toArray, List.set_cons_zero, List.set_cons_succ]
  refine wpAnyD_take (i := 4) (oi := ⟨_, _, _, _, _, _⟩) (v := ?_) rfl (by kernel_rfl) (by kernel_rfl) (by kernel_rfl) (by kernel_rfl) (fun _ _ _ h => h) (fun _ _ h => h) (Or.inl (Or.inl ⟨by rfl, ?_⟩)) hSd ?_
  rotate_left
  · intro W hSw; (try dsimp only at hSw); first | (go_simp; done) | (go_simp; with_reducible rfl)
  try simp only [Act.put, List.setIfInBounds_toArray, List.set_cons_zero, List.set_cons_succ]
  refine wpAnyD_take (i := 5) (oi := ⟨_, _, _, _, _, _⟩) (v := ?_) rfl (by kernel_rfl) (by kernel_rfl) (by kernel_rfl) (by kernel_rfl) (fun _ _ _ h => h) (fun _ _ h => h) (Or.inl (Or.inl ⟨by rfl, ?_⟩)) hSd ?_
  rotate_left
  · intro W hSw; (try dsimp only at hSw); first | (go_simp; done) | (go_simp; with_reducible rfl)
  try simp only [Act.put, List.setIfInBounds_toArray, List.set_cons_zero, List.set_cons_succ]
  refine wpAnyD_take (i := 6) (oi := ⟨_, _, _, _, _, _⟩) (v := ?_) rfl (by kernel_rfl) (by kernel_rfl) (by kernel_rfl) (by kernel_rfl) (fun _ _ _ h => h) (fun _ _ h => h) (Or.inl (Or.inl ⟨by rfl, ?_⟩)) hSd ?_
  rotate_left
  · intro W hSw; (try dsimp only at hSw); first | (go_simp; done) | (go_simp; with_reducible rfl)
  try simp only [Act.put, List.setIfInBounds_toArray, List.set_cons_zero, List.set_cons_succ]
  refine wpAnyD_take (i := 7) (oi := ⟨_, _, _, _, _, _⟩) (v := ?_) rfl (by kernel_rfl) (by kernel_rfl) (by kernel_rfl) (by kernel_rfl) (fun _ _ _ h => h) (fun _ _ h => h) (Or.inl (Or.inl ⟨by rfl, ?_⟩)) hSd ?_
  rotate_left
  · intro W hSw; (try dsimp only at hSw); first | (go_simp; done) | (go_simp; with_reducible rfl)
  try simp only [Act.put, List.setIfInBounds_toArray, List.set_cons_zero, List.set_cons_succ]
  refine wpAnyD_take (i := 9) (oi := ⟨_, _, _, _, _, _⟩) (v := ?_) rfl (by kernel_rfl) (by kernel_rfl) (by kernel_rfl) (by kernel_rfl) (fun _ _ _ h => h) (fun _ _ h => h) (Or.inl (Or.inl ⟨by rfl, ?_⟩)) hSd ?_
  rotate_left
  · intro W hSw; (try dsimp only at hSw); first | (go_simp; done) | (go_simp; with_reducible rfl)
  try simp only [Act.put, List.setIfInBounds_toArray, List.set_cons_zero, List.set_cons_succ]
  clear hSd
  refine wpAnyD_one (i := 8) (o := ⟨_, _, _, _, _, _⟩) (by kernel_rfl) (by decide) rfl (fun nD K hK0 => ?_)
  have hK := Lib.hid hK0
  clear hK0
  have Cw4 := Lib.hid (C0.out.trans (drewn _ w3.drew nD))
  generalize w3.drew.drewN nD = w4 at *
  have HC := Lib.hid (HGU.out w4 (HQ.out _ Cw4.out).1)
  go_simp
  refine HC.out.mono ?_
  rintro e w5 ⟨rfl, rfl⟩
  clear HC HGU
  refine hK.out _ _ (HQ.out _ Cw4.out).2.cells ?_
  clear hK K
  try simp only [Act.put, List.setIfInBounds_toArray, List.set_cons_zero, List.set_cons_succ]
  refine wpAnyD_one (i := 10) (o := ⟨_, _, _, _, _, _⟩) (by kernel_rfl) (by decide) rfl (fun nD K hK0 => ?_)
  have hK := Lib.hid hK0
  clear hK0
  have Cw5 := Lib.hid (Cw4.out.trans (drewn _ w4 nD))
  generalize w4.drewN nD = w5 at *
  have HC := Lib.hid (HUS.out w5 (HQ.out _ Cw5.out).1)
  go_simp
  refine HC.out.mono ?_
  rintro e w6 ⟨rfl, b6⟩
  clear HC
  have C6 := Lib.hid (Cw5.out.trans (b6.mono Cw5.out.size))
  clear b6
  refine hK.out _ _ (HQ.out _ C6.out).2.cells ?_
  clear hK K
  try simp only [Act.put, List.setIfInBounds_toArray, List.set_cons_zero, List.set_cons_succ]
  have hSd := (HQ.out _ C6.out).2.cells
  refine wpAnyD_take (i := 11) (oi := ⟨_, _, _, _, _, _⟩) (v := ?_) rfl (by kernel_rfl) (by kernel_rfl) (by kernel_rfl) (by kernel_rfl) (fun _ _ _ h => h) (fun _ _ h => h) (Or.inl (Or.inl ⟨by rfl, ?_⟩)) hSd ?_
  rotate_left
  · intro W hSw; (try dsimp only at hSw); first | (go_simp; done) | (go_simp; with_reducible rfl)
  try simp only [Act.put, List.setIfInBounds_toArray, List.set_cons_zero, List.set_cons_succ]
  refine wpAnyD_take (i := 12) (oi := ⟨_, _, _, _, _, _⟩) (v := ?_) rfl (by kernel_rfl) (by kernel_rfl) (by kernel_rfl) (by kernel_rfl) (fun _ _ _ h => h) (fun _ _ h => h) (Or.inl (Or.inl ⟨by rfl, ?_⟩)) hSd ?_
  rotate_left
  · intro W hSw; (try dsimp only at hSw); first | (go_simp; done) | (go_simp; with_reducible rfl)
  try simp only [Act.put, List.setIfInBounds_toArray, List.set_cons_zero, List.set_cons_succ]
  refine wpAnyD_take (i := 13) (oi := ⟨_, _, _, _, _, _⟩) (v := ?_) rfl (by kernel_rfl) (by kernel_rfl) (by kernel_rfl) (by kernel_rfl) (fun _ _ _ h => h) (fun _ _ h => h) (Or.inl (Or.inl ⟨by rfl, ?_⟩)) hSd ?_
  rotate_left
  · intro W hSw; (try dsimp only at hSw); first | (go_simp; done) | (go_simp; with_reducible rfl)
  try simp only [Act.put, List.setIfInBounds_toArray, List.set_cons_zero, List.set_cons_succ]
  refine wpAnyD_take (i := 14) (oi := ⟨_, _, _, _, _, _⟩) (v := ?_) rfl (by kernel_rfl) (by kernel_rfl) (by kernel_rfl) (by kernel_rfl) (fun _ _ _ h => h) (fun _ _ h => h) (Or.inl (Or.inl ⟨by rfl, ?_⟩)) hSd ?_
  rotate_left
  · intro W hSw; (try dsimp only at hSw); first | (go_simp; done) | (go_simp; with_reducible rfl)
  try simp only [Act.put, List.setIfInBounds_toArray, List.set_cons_zero, List.set_cons_succ]
  refine wpAnyD_take (i := 16) (oi := ⟨_, _, _, _, _, _⟩) (v := ?_) rfl (by kernel_rfl) (by kernel_rfl) (by kernel_rfl) (by kernel_rfl) (fun _ _ _ h => h) (fun _ _ h => h) (Or.inl (Or.inl ⟨by rfl, ?_⟩)) hSd ?_
  rotate_left
  · intro W hSw; (try dsimp only at hSw); first | (go_simp; done) | (go_simp; with_reducible rfl)
  try simp only [Act.put, List.setIfInBounds_toArray, List.set_cons_zero, List.set_cons_succ]
  refine wpAnyD_take (i := 17) (oi := ⟨_, _, _, _, _, _⟩) (v := ?_) rfl (by kernel_rfl) (by kernel_rfl) (by kernel_rfl) (by kernel_rfl) (fun _ _ _ h => h) (fun _ _ h => h) (Or.inl (Or.inl ⟨by rfl, ?_⟩)) hSd ?_
  rotate_left
  · intro W hSw; (try dsimp only at hSw); first | (go_simp; done) | (go_simp; with_reducible rfl)
  try simp only [Act.put, List.setIfInBounds_toArray, List.set_cons_zero, List.set_cons_succ]
  refine wpAnyD_take (i := 18) (oi := ⟨_, _, _, _, _, _⟩) (v := ?_) rfl (by kernel_rfl) (by kernel_rfl) (by kernel_rfl) (by kernel_rfl) (fun _ _ _ h => h) (fun _ _ h => h) (Or.inl (Or.inl ⟨by rfl, ?_⟩)) hSd ?_
  rotate_left
  · intro W hSw; (try dsimp only at hSw); first | (go_simp; done) | (go_simp; with_reducible rfl)
  try simp only [Act.put, List.setIfInBounds_toArray, List.set_cons_zero, List.set_cons_succ]
  clear hSd
  refine wpAnyD_one (i := 15) (o := ⟨_, _, _, _, _, _⟩) (by kernel_rfl) (by decide) rfl (fun nD K hK0 => ?_)
  have hK := Lib.hid hK0
  clear hK0
  have Cw7 := Lib.hid (C6.out.trans (drewn _ w6 nD))
  generalize w6.drewN nD = w7 at *
  have HC := Lib.hid (HGL.out w7 (HQ.out _ Cw7.out).1)
  go_simp
  refine HC.out.mono ?_
  rintro e w8 ⟨nl, rfl, rfl⟩
  clear HC HGL
  have C8 := Lib.hid (Cw7.out.trans (drewn _ w7 nl))
  generalize w7.drewN nl = w8 at *
  refine hK.out _ _ (HQ.out _ C8.out).2.cells ?_
  clear hK K
  try simp only [Act.put, List.setIfInBounds_toArray, List.set_cons_zero, List.set_cons_succ]
  refine wpAnyD_one (i := 19) (o := ⟨_, _, _, _, _, _⟩) (by kernel_rfl) (by decide) rfl (fun nD K hK0 => ?_)
  have hK := Lib.hid hK0
  clear hK0
  have Cw9 := Lib.hid (C8.out.trans (drewn _ w8 nD))
  generalize w8.drewN nD = w9 at *
  have HC := Lib.hid (HUS.out w9 (HQ.out _ Cw9.out).1)
  go_simp
  refine HC.out.mono ?_
  rintro e w10 ⟨rfl, b10⟩
  clear HC HUS
  have C10 := Lib.hid (Cw9.out.trans (b10.mono Cw9.out.size))
  clear b10
  refine hK.out _ _ (HQ.out _ C10.out).2.cells ?_
  clear hK K
  try simp only [Act.put, List.setIfInBounds_toArray, List.set_cons_zero, List.set_cons_succ]
  have hSd := (HQ.out _ C10.out).2.cells
  refine wpAnyD_take (i := 20) (oi := ⟨_, _, _, _, _, _⟩) (v := ?_) rfl (by kernel_rfl) (by kernel_rfl) (by kernel_rfl) (by kernel_rfl) (fun _ _ _ h => h) (fun _ _ h => h) (Or.inl (Or.inl ⟨by rfl, ?_⟩)) hSd ?_
  rotate_left
  · intro W hSw; (try dsimp only at hSw); first | (go_simp; done) | (go_simp; with_reducible rfl)
  try simp only [Act.put, List.setIfInBounds_toArray, List.set_cons_zero, List.set_cons_succ]
  refine wpAnyD_take (i := 21) (oi := ⟨_, _, _, _, _, _⟩) (v := ?_) rfl (by kernel_rfl) (by kernel_rfl) (by kernel_rfl) (by kernel_rfl) (fun _ _ _ h => h) (fun _ _ h => h) (Or.inl (Or.inl ⟨by rfl, ?_⟩)) hSd ?_
  rotate_left
  · intro W hSw; (try dsimp only at hSw); first | (go_simp; done) | (go_simp; with_reducible rfl)
  try simp only [Act.put, List.setIfInBounds_toArray, List.set_cons_zero, List.set_cons_succ]
  refine wpAnyD_last (by kernel_rfl) (fun nD => ?_)
  refine wpOp_one rfl (by rfl) ?_
  clear hSd
  have C11 := Lib.hid (C10.out.trans (drewn _ w10 nD))
  generalize w10.drewN nD = w11 at *
  clear C0 Cw4 Cw5 C6 Cw7 C8 Cw9 C10
  go_simp
  go_wp2_with fail
  go_loopw [36] (fun i wr => ∃ k : Nat, k ≤ s.now.length ∧ i = .int .i64 (k : Int) ∧ Hid (Below w3.heap.size w3 wr)) (fun i _ => s.now.length - (intOf i).toNat)
  case atStart => exact ⟨0, Nat.zero_le _, rfl, C11⟩
  case round =>
    obtain ⟨k, hk, rfl, hC⟩ := hrel
    by_cases hlt : k < s.now.length
    · have hlm : k < (s.now.map (·.1)).length := by rw [List.length_map]; exact hlt
      obtain ⟨g1, o1, rfl, _, _, _, hat1⟩ := CellsC.at (HOL.out _ hC.out) (by omega)
      have hx1 : (s.now.map (·.1)).getD k [] = (s.now.getD k ([], 0)).1 := by simp [List.getD, hlt]
      have hc1 : (sv (s.now.map (·.1)))[k]? = some (.string ⟨(s.now.getD k ([], 0)).1.toArray⟩) := by rw [← hx1]; exact sv_at hlm
      have c1 : wr.cell? ⟨g1, o1 + k, none⟩ = some (.string ⟨(s.now.getD k ([], 0)).1.toArray⟩) := hat1 _ _ hc1
      obtain ⟨g2, o2, rfl, hS2, _, _, hat2⟩ := CellsC.at HR.out.now (by omega)
      have hcn := nmV_at hlt
      have hn0 := hat2 _ _ hcn.1
      have hn1 : w.cell? ⟨g2, o2 + k * 2 + 1, none⟩ = some (.int .i64 ((s.now.getD k ([], 0)).2 : Int)) := hat2 _ _ hcn.2
      have hmem : s.now.getD k ([], 0) ∈ s.now := by rw [getD_at hlt]; exact List.getElem_mem _
      obtain ⟨p, hp⟩ : ∃ p, s.now.getD k ([], 0) = p := ⟨_, rfl⟩
      rw [hp] at c1 hn0 hn1 hmem
      clear hp hlm hx1 hc1 hat1 hat2 hcn
      obtain ⟨x, i⟩ := p
      dsimp only at c1 hn0 hn1
      have hif : i < s.files.length := HB.out.ok.nowOk.lt _ hmem
      have hxl : x.length ≤ 255 := (HB.out.ok.nowOk.nm _ hmem).2
      have hrs : readS s x = ((s.files.getD i noFi).data, 0) := by unfold readS; rw [mem_fnd HB.out.ok.nowOk.rise hmem]
      obtain ⟨g3, o3, rfl, hS3, _, _, hat3⟩ := CellsC.at HR.out.files (by omega)
      have hf0 := hat3 _ _ (fiV_at hif).1
      have HRD := Lib.hid (HGR.out wr (HQ.out _ hC.out).1 x (by omega))
      rw [hrs] at HRD
      obtain ⟨d, hd⟩ : ∃ q, (s.files.getD i noFi).data = q := ⟨_, rfl⟩
      rw [hd] at hf0 HRD
      clear hd hrs hat3 hmem
      have hS2l := HS.out _ hS2
      have hS3l := HS.out _ hS3
      have HC1 := Lib.hid c1
      have HN0 := Lib.hid hn0
      have HN1 := Lib.hid hn1
      have HF0 := Lib.hid hf0
      clear hn0 hn1 hf0
      go_upto_region 7 with fail
      go_wp2_with fail
      refine HRD.out.mono ?_
      rintro e w12 ⟨v12, rfl, o12, b12⟩
      clear HRD
      have hcv := fun nq : Nat => bytes_str ((own_c o12).kept (S' := fun _ => True) (w' := w12.drewN nq) (fun k _ => ⟨trivial, rfl⟩))
      have hg1 := World.block_lt_of_cell? wr _ c1
      have c1' : w12.cell? ⟨g1, o1 + k, none⟩ = some (.string ⟨x.toArray⟩) := (b12.cell (p := ⟨g1, o1 + k, none⟩) hg1).trans c1
      have C12 := Lib.hid (hC.out.trans (b12.mono hC.out.size))
      have hq := HQ.out _ C12.out
      have n0 : w12.cell? ⟨g2, o2 + k * 2, none⟩ = some (.string ⟨x.toArray⟩) := (hq.1.cell (p := ⟨g2, o2 + k * 2, none⟩) hS2l).trans HN0.out
      have n1 : w12.cell? ⟨g2, o2 + k * 2 + 1, none⟩ = some (.int .i64 (i : Int)) := (hq.1.cell (p := ⟨g2, o2 + k * 2 + 1, none⟩) hS2l).trans HN1.out
      have f0 : w12.cell? ⟨g3, o3 + i * 2, none⟩ = some (.string ⟨d.toArray⟩) := (hq.1.cell (p := ⟨g3, o3 + i * 2, none⟩) hS3l).trans HF0.out
      obtain ⟨q0, q1, _, _, _, _, _⟩ := hq.2.cells
      clear o12 b12 c1 hg1 hq hS2l hS3l
      go_wp2_with fail
      go_quiet (fail)
      have C13 := Lib.hid (C12.out.trans (drewn _ w12 nq))
      clear c1' n0 n1 f0 q0 q1 hcv
      generalize w12.drewN nq = w13 at *
      go_wp2_with fail
      exact ⟨⟨k + 1, by omega, by go_num, C13⟩, by simp [intOf]; omega⟩
    · go_wp2_with fail
      go_ret
      exact ⟨rfl, (HQ.out _ hC.out).1⟩
theorem same_any {w0 w : World} {F : Nat → Prop} {bf : Nat} {s : Fs} (g : FsG w0 F w bf s) (hB : Bd s) (S : Nat → Prop) (v : Value) (h : FsV S w v s) (hS : ∀ k, S k → k < w.heap.size) :
    Calls Tryz.prog 12 #[.pointer (some ⟨bf, 0, none⟩), v] w fun e w' => e = .returned (.bool true) ∧ Below w.heap.size w w' :=
  same_core (fun _ hb => g_used (g.beside hb)) (fun _ hb => g_left (g.beside hb) (by have h3 := hB.st; omega)) (fun _ hb => g_list (g.beside hb) (by have h3 := hB.st; omega)) (fun _ hb x hx => g_read (g.beside hb) x hx) hB S v h hS
/-- Two file systems with the same names, bytes and room. -/
structure Agree (p s : Fs) : Prop where
  now : p.now = s.now
  room : p.room = s.room
  data : ∀ i, (p.files.getD i noFi).data = (s.files.getD i noFi).data
theorem Agree.used {p s : Fs} (h : Agree p s) : used p = used s := by
  unfold Go.Proofs.YtjefcalndfcmdaaGreatDoor.used
  rw [h.now]
  exact usedD_congr (fun q _ => by rw [h.data])
theorem Agree.read {p s : Fs} (h : Agree p s) (x : Nm) : readS p x = readS s x := by
  unfold readS
  rw [h.now]
  cases fnd s.now x with
  | none => rfl
  | some i => dsimp only; rw [h.data]
theorem same_two {w0 w : World} {F : Nat → Prop} {bf : Nat} {p s : Fs} (g : FsG w0 F w bf p) (ha : Agree p s) (hp : p.steps ≤ 16777214) (hB : Bd s) (S : Nat → Prop) (v : Value) (h : FsV S w v s) (hS : ∀ k, S k → k < w.heap.size) :
    Calls Tryz.prog 12 #[.pointer (some ⟨bf, 0, none⟩), v] w fun e w' => e = .returned (.bool true) ∧ Below w.heap.size w w' :=
  same_core (fun _ hb => by rw [← ha.used]; exact g_used (g.beside hb)) (fun _ hb => by rw [← ha.used, ← ha.room]; exact g_left (g.beside hb) hp) (fun _ hb => by rw [← ha.now]; exact g_list (g.beside hb) hp) (fun _ hb x hx => by rw [← ha.read]; exact g_read (g.beside hb) x hx) hB S v h hS
end Go.Proofs.YtjefcalndfcmdaaGreatDoor
