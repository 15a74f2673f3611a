/- The walk of the reference's Parse. -/
import Derived.Test.YtgppadnbfggkcaaDoorAc
import Derived.Deep.Cut
namespace Go.Proofs.YtgppadnbfggkcaaDoor
open Go.RowKit

def RefGives (r : Option Nat) (e : Ending) : Prop :=
  match r with
  | some c => e = .returned (.tuple #[.float .f64 c, .int .i64 0])
  | none => e = .returned (.tuple #[.float .f64 0, .int .i64 10])
theorem rdig16 (s : ByteArray) (w : World) :
    Calls Tryd.prog 30 #[.string s, .int .i64 16] w fun e w' => DigGives (refDig s.data.toList 16) e ∧ w = w' := rdig_any s 16 (by omega) w
theorem rdig4 (s : ByteArray) (w : World) :
    Calls Tryd.prog 30 #[.string s, .int .i64 4] w fun e w' => DigGives (refDig s.data.toList 4) e ∧ w = w' := rdig_any s 4 (by omega) w
theorem ret_fi {a b : Nat} (h : a = b) : Ending.returned (.tuple #[.float .f64 a, .int .i64 0]) = .returned (.tuple #[.float .f64 b, .int .i64 0]) := by rw [h]
set_option maxRecDepth 100000 in
set_option maxHeartbeats 400000 in
theorem rparse_empty (w : World) :
    Calls Tryd.prog 18 #[.string ⟨#[]⟩] w fun e w' => RefGives none e ∧ w = w' := by
  go_enter Tryd.func18, Tryd.ntmps18
  go_wp2_with fail
  go_loop [6, 7] (fun a i => a = .int .i64 (-1) ∧ i = .int .i64 0) (fun _ _ => 0)
  case atStart => exact ⟨rfl, rfl⟩
  case round =>
    obtain ⟨rfl, rfl⟩ := hrel
    go_wp2_with fail
    go_ret2
    exact ⟨rfl, rfl⟩
set_option maxRecDepth 100000 in
set_option maxHeartbeats 400000 in
theorem rparse_nan (w : World) :
    Calls Tryd.prog 18 #[.string ⟨#[110, 97, 110]⟩] w fun e w' => RefGives (some 9221120237041090560) e ∧ w = w' := by
  have h27 := fb27
  go_enter Tryd.func18, Tryd.ntmps18
  go_wp2_with fail
  go_ret2
  exact ⟨rfl, rfl⟩
theorem parts_of {u : ByteArray} {l q : List UInt8} (hu : u.data.toList = l ++ 112 :: q) (hl : ∀ c ∈ l, c ≠ 112) :
    u.size = l.length + 1 + q.length ∧ ((u.extract 0 l.length).data.toList = l ∧ (u.extract (l.length + 1) u.size).data.toList = q) ∧
      (∀ k, k < l.length → ∀ h : k < u.size, ((u[k].toNat : Int) == 112) = false) ∧ (∀ h : l.length < u.size, ((u[l.length].toNat : Int) == 112) = true) := by
  have hz : u.size = l.length + 1 + q.length := by rw [← list_len, hu]; simp; omega
  refine ⟨hz, ⟨?_, ?_⟩, ?_, ?_⟩
  · rw [ByteArray.data_extract, Array.toList_extract, hu]; simp [List.extract]
  · rw [ByteArray.data_extract, Array.toList_extract, hu, hz]
    simp [List.extract]
  · intro k hk h
    have e : u[k] = u.data.toList[k]'(by rw [list_len]; exact h) := rfl
    have e2 : u[k] = l[k] := by rw [e]; simp only [hu]; rw [List.getElem_append_left hk]
    rw [beq_eq_false_iff_ne, e2]
    intro h5
    exact hl _ (List.getElem_mem hk) (UInt8.toNat.inj (by rw [show (112 : UInt8).toNat = 112 from rfl]; omega))
  · intro h
    have e : u[l.length] = u.data.toList[l.length]'(by rw [list_len]; exact h) := rfl
    have e2 : u[l.length] = 112 := by rw [e]; simp only [hu]; simp
    rw [e2]; rfl
theorem rest_plain {u : ByteArray} {q : List UInt8} (hu : u.data.toList = q) (h : q ≠ []) (h2 : q.head? ≠ some 45) :
    (u.toList == []) = false ∧ ∃ h : 0 < u.size, ((u[0].toNat : Int) == 45) = false := by
  have hz : 0 < u.size := by
    have h3 : u.data.toList.length ≠ 0 := fun e => h (by rw [← hu]; exact List.length_eq_zero_iff.1 e)
    rw [list_len] at h3; omega
  refine ⟨by rw [beq_eq_false_iff_ne, Lib.toList_data, hu]; exact h, hz, ?_⟩
  have hd := drop_byte u 0 hz
  rw [List.drop_zero, hu] at hd
  rw [hd] at h2
  rw [beq_eq_false_iff_ne]
  intro h5
  exact h2 (congrArg some (UInt8.toNat.inj (by rw [show (45 : UInt8).toNat = 45 from rfl]; omega)))
theorem rest_minus {u : ByteArray} {q : List UInt8} (hu : u.data.toList = q) (h2 : q.head? = some 45) :
    (u.toList == []) = false ∧ ∃ h : 0 < u.size, ((u[0].toNat : Int) == 45) = true ∧ (u.extract 1 u.size).data.toList = q.tail := by
  have h : q ≠ [] := by rintro rfl; cases h2
  have hz : 0 < u.size := by
    have h3 : u.data.toList.length ≠ 0 := fun e => h (by rw [← hu]; exact List.length_eq_zero_iff.1 e)
    rw [list_len] at h3; omega
  refine ⟨by rw [beq_eq_false_iff_ne, Lib.toList_data, hu]; exact h, hz, ?_, ?_⟩
  · have hd := drop_byte u 0 hz
    rw [List.drop_zero, hu] at hd
    rw [hd] at h2
    have h5 : u[0] = 45 := by injection h2
    rw [h5]; rfl
  · rw [ByteArray.data_extract, Array.toList_extract, hu]
    have : u.size = q.length := by rw [← hu, list_len]
    rw [this]
    simp only [List.extract, List.drop_one]
    rw [List.take_of_length_le (by simp)]
end Go.Proofs.YtgppadnbfggkcaaDoor
