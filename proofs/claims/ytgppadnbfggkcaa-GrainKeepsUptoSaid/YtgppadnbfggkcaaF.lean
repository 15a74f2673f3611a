/- Contracts: Encode and Decode's deferred closures. -/
import Derived.Test.YtgppadnbfggkcaaE
import Derived.Defers
import Derived.Recover
namespace Go.Proofs.Ytgppadnbfggkcaa
open Go.RowKit

set_option maxHeartbeats 400000 in
theorem code_any (c : Int) (w : World) :
    Calls Try.prog 21 #[.iface 29 (.int .i64 c)] w fun e w' => e = .returned (.int .i64 c) ∧ w = w' := by
  have hta : ∀ w, (Instr.typeAssert (.iface 29 (.int .i64 c)) 20 29 true).run Try.prog w = .ok (.tuple #[.int .i64 c, .bool true]) w := fun _ => by kernel_rfl
  go_enter Try.func21, Try.ntmps21
  go_wp2
  go_ret
  exact ⟨rfl, rfl⟩
set_option maxHeartbeats 400000 in
theorem enc_idle (p q : Addr) (w : World) :
    CallsD Try.prog 20 #[.pointer (some p), .pointer (some q)] .returning w fun e u' w' => e = .returned (.tuple #[]) ∧ u' = .returning ∧ w' = w := by
  refine callsD_of_wpS Try.func20 rfl fun c₀ cs hu => ?_
  apply wpS_seq
  apply wpS_region
  simp [wpOpsS, go_sem, recoverD, hu, Try.ntmps20, Exit.thenS]
  refine wpS_of_wp ?_
  go_wp2
  cases c₀
  simp_all [bodyPostS, results, Try.results20]
set_option maxRecDepth 100000 in
set_option maxHeartbeats 1600000 in
theorem enc_panicking (p q : Addr) (c : Int) (x y : Value) (older : List PanicEntry) (w : World) (hp : w.cell? p = some x) (hzp : w.frozen? p = false)
    (hq : (w.setCell p (.slice none 0 0)).cell? q = some y) (hzq : (w.setCell p (.slice none 0 0)).frozen? q = false) :
    CallsD Try.prog 20 #[.pointer (some p), .pointer (some q)] (.panicking ({ v := .iface 29 (.int .i64 c), recovered := false } :: older)) w fun e u' w' =>
      e = .returned (.tuple #[]) ∧ u' = .panicking ({ v := .iface 29 (.int .i64 c), recovered := true } :: older) ∧ w' = (w.setCell p (.slice none 0 0)).setCell q (.int .i64 c) := by
  refine callsD_of_wpS Try.func20 rfl fun c₀ cs hu => ?_
  have HP := Lib.hid hp
  have HQ := Lib.hid hq
  have HZP := Lib.hid hzp
  have HZQ := Lib.hid hzq
  clear hp hq hzp hzq
  apply wpS_seq
  apply wpS_region
  simp [wpOpsS, go_sem, recoverD, hu, Try.ntmps20, Exit.thenS]
  have HU := Lib.hid hu
  clear hu
  rw [show (#[Value.pointer (some p), Value.pointer (some q)] ++ ((Array.replicate 6 undef).setIfInBounds 1 (Value.iface 29 (Value.int IntKind.i64 c))).setIfInBounds 0 (Value.iface 29 (Value.int IntKind.i64 c)) : Array Value)
    = #[.pointer (some p), .pointer (some q), .iface 29 (.int .i64 c), .iface 29 (.int .i64 c), undef, undef, undef, undef] from rfl]
  generalize hc1 : { c₀ with mode := FrameMode.panicking ({ v := Value.iface 29 (Value.int IntKind.i64 c), recovered := true, goexit := false } :: older) } = c1
  have HC := Lib.hid hc1
  clear hc1
  refine wpS_of_wp ?_
  generalize hq : (fun e a' w' => bodyPostS Try.prog Try.f20 c₀ cs (fun e u' w' =>
      e = Ending.returned (Value.tuple #[]) ∧
        u' = FrameMode.panicking ({ v := Value.iface 29 (Value.int IntKind.i64 c), recovered := true } :: older) ∧
          w' = (w.setCell p (Value.slice none 0 0)).setCell q (Value.int IntKind.i64 c)) e a' (c1 :: cs) w') = Q
  have HQQ := Lib.hid hq
  clear hq
  have hp := HP.out
  have hq := HQ.out
  have hzp := HZP.out
  have hzq := HZQ.out
  go_wp2_with fail
  refine (code_any c _).mono ?_
  rintro e w' ⟨rfl, rfl⟩
  go_wp2
  have e := HQQ.out
  subst e
  have e1 := HC.out
  subst e1
  cases c₀
  simp [bodyPostS, results, Try.results20]
end Go.Proofs.Ytgppadnbfggkcaa
