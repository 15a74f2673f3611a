/- The walks of same and Add. -/
import Derived.Test.YtgknihcpmpfocaaDoorPkQ
namespace Go.Proofs.YtgknihcpmpfocaaDoor
open Go.RowKit Go.Maps
attribute [local simp high] id_size id_zero

theorem bytes_eq {S : Nat → Prop} {v1 v2 : Value} {l1 l2 : List UInt8} {w : World} (h1 : BytesC S w v1 l1) (h2 : BytesC S w v2 l2) :
    Calls Tryd.prog 51 #[v1, v2] w fun e w' => e = .returned (.bool (decide (l1 = l2))) ∧ w' = w := by
  have he := Tryd.bytes_Equal_strs _ _ _ _ w (bytes_str h1) (bytes_str h2)
  rw [u8_list_eq] at he
  exact he
/-- What same answers: the record's id, or that another record has it. -/
def SameP (w : World) (X : List UInt8) (b : Bool) (e : Ending) (w' : World) : Prop :=
  Below w.heap.size w w' ∧ e = .returned (.tuple #[.agg (bv (if b then X else zeros)).toArray, .int .i64 (if b then 0 else 150)])
set_option maxRecDepth 100000 in
set_option maxHeartbeats 4000000 in
theorem same_any {w0 w : World} {F T : Nat → Prop} {bp bf : Nat} {s : Fs} {x : Nm} {all : List (List UInt8)} (g : PkG w0 F T w bp bf s x all) (hE : Env w) (X : List UInt8) (hX : X.length = 32) {r : List UInt8} (hr : firstR all X = some r)
    (S : Nat → Prop) (v : Value) (d : List UInt8) (hd : BytesC S w v d) (hS : ∀ k, S k → k < w.heap.size) :
    Calls Tryd.prog 33 #[.pointer (some ⟨bp, 0, none⟩), .agg (bv X).toArray, v] w (SameP w X (decide (r = d))) := by
  have hb2 := ((Below.refl w.heap.size w).alloc (Nat.le_refl _) (.cells (bv X).toArray 44)).alloc (by simp) (.cells (bv zeros).toArray 44)
  have i1 : IDAt ((w.alloc (.cells (bv X).toArray 44)).alloc (.cells (bv zeros).toArray 44)) w.heap.size X := ⟨hX, (Below.heap_alloc _ _ _ (by simp)).trans (new_five w _ _)⟩
  have i2 : IDAt ((w.alloc (.cells (bv X).toArray 44)).alloc (.cells (bv zeros).toArray 44)) (w.heap.size + 1) zeros := by
    have := IDAt.new (w.alloc (.cells (bv X).toArray 44))
    rw [World.size_alloc] at this
    exact this
  have hz2 : ((w.alloc (.cells (bv X).toArray 44)).alloc (.cells (bv zeros).toArray 44)).heap.size = w.heap.size + 2 := by simp
  have B2 := Lib.hid hb2
  have I1 := Lib.hid i1
  have I2 := Lib.hid i2
  have zx : (bv X).length = n32 := by rw [bv_len, hX]; rfl
  have HX := Lib.hid hX
  have G := Lib.hid g
  have HE := Lib.hid hE
  have HD := Lib.hid hd
  have HS := Lib.hid hS
  have HR := Lib.hid hr
  obtain ⟨a, ca, rfl⟩ := hd.shape
  obtain ⟨nd, hnd⟩ : ∃ nd, d.length = nd := ⟨_, rfl⟩
  rw [hnd]
  have HND := Lib.hid hnd
  obtain ⟨t, ht⟩ : ∃ t, decide (r = d) = t := ⟨_, rfl⟩
  rw [ht]
  have HT := Lib.hid ht
  have zz : (bv zeros).length = n32 := rfl
  clear hb2 i1 i2 hX g hE hd hS hr hnd ht
  go_enter Tryd.func33, Tryd.ntmps33
  go_upto_region 1 with fail
  generalize (w.alloc (.cells (bv X).toArray 44)).alloc (.cells (bv zeros).toArray 44) = w2 at *
  have c1 := I1.out.cells
  have HG := Lib.hid (get_any (G.out.beside B2.out) (HE.out.on B2.out) X HX.out)
  rw [HR.out] at HG
  go_wp2_with fail
  refine HG.out.mono ?_
  rintro e w3 ⟨hb3, v3, rfl, hown3⟩
  obtain ⟨a3, c3, rfl⟩ := own_slice hown3
  have hz3 := hb3.size
  have B3 := Lib.hid (B2.out.trans (hb3.mono (by omega)))
  have I13 := Lib.hid (I1.out.kept (hb3.block _ (by omega)))
  have I23 := Lib.hid (I2.out.kept (hb3.block _ (by omega)))
  have HQ := Lib.hid (bytes_eq (S := fun k => S k ∨ w2.heap.size ≤ k) ((own_c hown3).kept (fun k hk => ⟨Or.inr hk.1, rfl⟩)) (HD.out.kept (fun k hk => ⟨Or.inl hk, B3.out.block k (HS.out k hk)⟩)))
  rw [HT.out, HND.out] at HQ
  clear c1 hb3 hown3 HG
  have c13 := I13.out.cells
  have s13 := I23.out.write (l := X) HX.out
  have s23 := I23.out.write (l := zeros) rfl
  have hkz : w3.frozen? ⟨w.heap.size + 1, 0, none⟩ = false := I23.out.free 0
  cases t with
  | true =>
    go_wp2_with fail
    refine HQ.out.mono ?_
    rintro e w4 ⟨rfl, rfl⟩
    go_wp2_with fail
    exact bodyPost_ret (v := .tuple #[.agg (bv X).toArray, .int .i64 0]) (results_id rfl _ _ rfl rfl (I23.out.put HX.out)) rfl ⟨below_setRow B3.out (by omega) _, rfl⟩
  | false =>
    go_wp2_with fail
    refine HQ.out.mono ?_
    rintro e w4 ⟨rfl, rfl⟩
    go_wp2_with fail
    exact bodyPost_ret (v := .tuple #[.agg (bv zeros).toArray, .int .i64 150]) (results_id rfl _ _ rfl rfl (I23.out.put rfl)) rfl ⟨below_setRow B3.out (by omega) _, rfl⟩
end Go.Proofs.YtgknihcpmpfocaaDoor
