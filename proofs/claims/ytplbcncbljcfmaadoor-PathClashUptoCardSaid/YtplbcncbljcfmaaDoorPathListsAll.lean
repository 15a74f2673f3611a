/- The walk of the law PathLists. -/
import Derived.Test.YtplbcncbljcfmaaDoorPathW
namespace Go.Proofs.YtplbcncbljcfmaaDoor
open Go.RowKit Go.Lib

theorem valid_mem {l : List Txt} {x : Txt} (h : x ∈ validL l) : x ∈ l ∧ checkN x = 0 := by
  unfold validL at h
  rw [List.mem_filter] at h
  exact ⟨h.1, of_decide_eq_true h.2⟩
theorem valid_short {l : List Txt} : ∀ x ∈ validL l, x.length ≤ 255 ∧ x ≠ [] := fun x hx => by
  have := checkN_ok (valid_mem hx).2
  exact ⟨this.2.2.2, this.1⟩
theorem valid_len (l : List Txt) : (validL l).length ≤ l.length := by
  have := validL_le l l.length
  rwa [List.take_length] at this
set_option maxRecDepth 100000 in
set_option maxHeartbeats 4000000 in
theorem lists_law (S : Nat → Prop) (v : Value) (l : List Txt) (w : World) (hS : ∀ k, S k → k < w.heap.size) (h : StrsC S w v l) (hl : l.length ≤ 4194304) (hx : ∀ x ∈ l, x.length ≤ 4194304) (hE : PEnv w) :
    Calls Tryd.prog 9 #[v] w (TrueP w) := by
  unfold TrueP
  have HE := Lib.hid hE
  have HV := Lib.hid (fun W (hb : Below w.heap.size w W) => valid_any S v l W (fun k hk => Nat.lt_of_lt_of_le (hS k hk) hb.size) (h.kept (fun k hk => ⟨hk, hb.block k (hS k hk)⟩)) hl hx (hE.on hb))
  have hvs := valid_short (l := l)
  have hvl := Nat.le_trans (valid_len l) hl
  have HCL := Lib.hid (fun B v W (h : OwnS W B v (validL l)) => clash_walk B v (validL l) W h hvl (fun x hx => by have := (hvs x hx).1; omega))
  have HRL := Lib.hid (fun S v W hS (h : StrsC S W v (validL l)) => rclash_walk S v (validL l) W hS h hvl (fun x hx => by have := (hvs x hx).1; omega))
  have HVJ : Hid (∀ j, j < (validL l).length → ((validL l).getD j []).length ≤ 4194300) := Lib.hid (fun j hj => by rw [getD_at hj]; have := (hvs _ (List.getElem_mem hj)).1; omega)
  have HCO := Lib.hid (fun S v W (h : StrsC S W v (validL l)) => common_any S v (validL l) W h hvl HVJ.out)
  have HRO := Lib.hid (fun S v W hS (h : StrsC S W v (validL l)) => rcommon_any S v (validL l) W hS h hvl HVJ.out (fun p hp => (hvs p hp).2))
  have HU := Lib.hid (fun a b c d => ClashOf.unique (s := sortP (validL l)) (a := a) (b := b) (c := c) (d := d))
  generalize commonN (validL l) = cm at *
  generalize validL l = L at *
  clear hS h hl hx hE hvs hvl
  go_enter Tryd.func9, Tryd.ntmps9
  go_wp2_with fail
  refine (awake5_any _ HE.out).mono ?_
  rintro e w1 ⟨rfl, hb1⟩
  have B1 := Lib.hid hb1
  clear hb1
  go_wp2_with fail
  refine (HV.out _ B1.out).mono ?_
  rintro e w2 ⟨v2, rfl, hv2, hb2⟩
  have B2 := Lib.hid (B1.out.trans (hb2.mono B1.out.size))
  have O2 := Lib.hid hv2
  have C2 := Lib.hid (ownS_c hv2)
  clear hv2 hb2
  go_wp2_with fail
  refine (HCL.out _ _ _ O2.out).mono ?_
  rintro e w3 ⟨a, b, rfl, hcl, hb3⟩
  have CA := Lib.hid hcl
  have C3 := Lib.hid (C2.out.kept (S' := fun k => w1.heap.size ≤ k ∧ k < w2.heap.size) (w' := w3) (fun k hk => ⟨hk, hb3.block k hk.2⟩))
  have B3 := Lib.hid (B2.out.trans (hb3.mono B2.out.size))
  have hs3 := hb3.size
  clear hcl hb3
  go_wp2_with fail
  refine (HRL.out _ _ _ (fun k hk => Nat.lt_of_lt_of_le hk.2 hs3) C3.out).mono ?_
  rintro e w4 ⟨c, d, rfl, hcl, hb4⟩
  obtain ⟨rfl, rfl⟩ := HU.out _ _ _ _ CA.out hcl
  have C4 := Lib.hid (C3.out.kept (S' := fun k => w1.heap.size ≤ k ∧ k < w2.heap.size) (w' := w4) (fun k hk => ⟨hk, hb4.block k (Nat.lt_of_lt_of_le hk.2 hs3)⟩))
  have B4 := Lib.hid (B3.out.trans (hb4.mono B3.out.size))
  have hs4 := hb4.size
  clear hcl hb4 CA
  go_wp2_with fail
  refine (HCO.out _ _ _ C4.out).mono ?_
  rintro e w5 ⟨rfl, n5, rfl⟩
  have C5 := Lib.hid (C4.out.kept (S' := fun k => w1.heap.size ≤ k ∧ k < w2.heap.size) (w' := w4.drewN n5) (fun k hk => ⟨hk, rfl⟩))
  have B5 := Lib.hid (B4.out.trans (drewn w.heap.size w4 n5))
  have hs5 : w4.heap.size = (w4.drewN n5).heap.size := rfl
  generalize w4.drewN n5 = w5 at *
  go_wp2_with fail
  refine (HRO.out _ _ _ (fun k hk => Nat.lt_of_lt_of_le hk.2 (by omega)) C5.out).mono ?_
  rintro e w6 ⟨rfl, hb6⟩
  have B6 := Lib.hid (B5.out.trans (hb6.mono B5.out.size))
  clear hb6
  go_wp2_with fail
  go_ret
  exact ⟨rfl, B6.out⟩
end Go.Proofs.YtplbcncbljcfmaaDoor
