/- All names in order. -/
import Derived.Test.YtjefcalndfcmdaaGreatDoorVfN
import Derived.Sort.KeysCollected
import Derived.WalkKit
namespace Go.Proofs.YtjefcalndfcmdaaGreatDoor
open Go.RowKit Go.Maps Go.Sort
theorem has_const {D : DataW Unit} {k : Lit} (h : Maps.has D k = true) : ∃ d, ∀ z, D.atKey k z = d := by
  cases D with
  | map es =>
    have h1 : es.any (fun p => p.1.sameKey k) = true := h
    rw [List.any_eq_true] at h1
    obtain ⟨p, hp, hs⟩ := h1
    cases hf : es.find? (fun p => p.1.sameKey k) with
    | some q => exact ⟨q.2, fun z => by simp [DataW.atKey, hf]⟩
    | none => exact absurd hs (by simpa using List.find?_eq_none.1 hf p hp)
  | _ => cases h
theorem name_has {w : World} {b n : Nat} {D : DataW Unit} {fb : Nat → Nat} {l : Dir} (h : MapAt w b n D fb l) (hr : Rise l) (x : Nm) : x ∈ l.map (·.1) ↔ Maps.has D (.string x) = true := by
  constructor
  · intro hx
    obtain ⟨p, hp, rfl⟩ := List.mem_map.1 hx
    exact has_name h hr hp
  · intro hh
    obtain ⟨d, hd⟩ := has_const hh
    cases hf : fnd l x with
    | some i => exact List.mem_map.2 ⟨(x, i), fnd_mem hf, rfl⟩
    | none =>
      exfalso
      have h1 := h.at_ x
      unfold fndB at h1
      rw [hf] at h1
      have h2 := (hd (.lit (.int .i64 0))).symm.trans (h1 _)
      have h3 := (hd (.lit (.int .i64 1))).symm.trans (h1 _)
      rw [h2] at h3
      simp at h3
theorem keys_perm {w : World} {b n : Nat} {D : DataW Unit} {fb : Nat → Nat} {l : Dir} (h : MapAt w b n D fb l) (hr : Rise l) : (l.map (·.1)).Perm (strKeys D) := by
  have hm := name_has h hr
  obtain ⟨es, rfl, hp, _⟩ := h.own.entries keyLaw
  obtain ⟨es2, e2, hk⟩ := h.own.keysOf
  have e3 : es = es2 := by injection e2
  subst e3
  refine perm_strKeys hp (fun p hp => ?_) ?_ hm
  · obtain ⟨key, hkey⟩ := hk p hp
    obtain ⟨x, _, e, _⟩ := Maps.keyOf_str Tryz.underlying9 hkey
    exact ⟨x, e⟩
  · show (l.map (·.1)).Pairwise _
    refine List.pairwise_map.2 (hr.imp (fun {p q} hlt (e : p.1 = q.1) => nm_irrefl q.1 (by rwa [e] at hlt)))
theorem sort_names {l : Dir} (hr : Rise l) {ss : List (List UInt8)} (h : ss.Perm (l.map (·.1))) : ss.mergeSort (fun x y => decide (x ≤ y)) = l.map (·.1) := by
  rw [mergeSort_of_perm h]
  refine List.mergeSort_of_pairwise ?_
  refine List.pairwise_map.2 (hr.imp (fun {p q} hlt => ?_))
  exact decide_eq_true (List.le_of_lt hlt)
def ListP (w : World) (l : List Nm) (e : Ending) (w' : World) : Prop := ∃ v, e = .returned v ∧ w'.ownsRow w.heap.size 9 1 v l.length (l.map fun x => .string ⟨x.toArray⟩) ∧ Below w.heap.size w w'
set_option maxHeartbeats 1000000 in
theorem list_any {B : Nat} {X : FsX} {w : World} {bf : Nat} {s : Fs} (h : FsAt B X w bf s) (ok : FsOk s) (hs : s.steps ≤ 16777216) :
    Calls Tryz.prog 24 #[.pointer (some ⟨bf, 0, none⟩)] w (ListP w (s.now.map (·.1))) := by
  obtain ⟨_, _, c2, _⟩ := h.cells
  have hown := h.mn.own
  have hsz : Maps.size X.Dn ≤ 16777216 := by have h1 := hown.size_le; have h2 := h.hn; omega
  have HP := Lib.hid (keys_perm h.mn ok.nowOk.rise)
  have HR := Lib.hid ok.nowOk.rise
  have hmax : Maps.size X.Dn ≤ maxLen := by unfold maxLen; omega
  have hbytes : Maps.size X.Dn * 16 ≤ 140737488355328 := by omega
  have HK := Lib.hid (Tryz.slices_Sorted_keys_45_46 X.bn X.nn X.Dn ptrR w hown hmax hbytes)
  have HK1 := Lib.hid (Tryz.maps_Keys_46 (some X.bn) w)
  clear h ok hown hsz hmax hbytes
  refine (callsIn_wide (n := 6)).1 ?_
  have hfK : Fence.wide.fn 46 := trivial
  have hfS : Fence.wide.fn 45 := trivial
  refine callsIn_of_wp Tryz.func24 rfl trivial ?_ rfl
  simp only [Tryz.ntmps24, List.size_toArray, List.length_cons, List.length_nil, Nat.reduceAdd, Nat.reduceSub, Array.replicate_succ, Array.replicate_zero, List.push_toArray, List.append_toArray, List.nil_append, List.cons_append]
  gi_wp2_with (first
    | (gi_at_call 46; refine HK1.out.mono ?_; rintro e w' ⟨rfl, rfl⟩)
    | (gi_at_call 45; refine HK.out.mono ?_; rintro e w' ⟨v, ss, rfl, hS, hrow, hnil, hb⟩))
  go_ret
  have e1 := sort_names HR.out (hS.trans HP.out.symm)
  have e2 : ss.length = (s.now.map (·.1)).length := (hS.trans HP.out.symm).length_eq
  rw [e1, e2] at hrow
  refine ⟨v, rfl, ?_, ((Below.refl _ w).alloc (Nat.le_refl _) _).trans (hb.mono (by simp))⟩
  have h3 := ownsRow_base_a (base' := w.heap.size) hrow (by simp)
  exact h3
end Go.Proofs.YtjefcalndfcmdaaGreatDoor
