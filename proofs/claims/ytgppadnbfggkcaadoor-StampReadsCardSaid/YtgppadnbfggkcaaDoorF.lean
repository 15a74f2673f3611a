/- Contracts: Parse, with its deferred closure. -/
import Derived.Test.YtgppadnbfggkcaaDoorE
import Derived.Defers
import Derived.Recover
namespace Go.Proofs.YtgppadnbfggkcaaDoor
open Go.RowKit Go.Shelf Go.Sort Go.Lib

set_option maxHeartbeats 400000 in
theorem catch_idle (p q : Addr) (w : World) :
    CallsD Tryd.prog 28 #[.pointer (some p), .pointer (some q)] .returning w fun e u' w' => e = .returned (.tuple #[]) ∧ u' = .returning ∧ w' = w := by
  refine callsD_of_wpS Tryd.func28 rfl fun c₀ cs hu => ?_
  apply wpS_seq
  apply wpS_region
  simp [wpOpsS, go_sem, recoverD, hu, Tryd.ntmps28, Exit.thenS]
  refine wpS_of_wp ?_
  go_wp2
  cases c₀
  simp_all [bodyPostS, results, Tryd.results28]

set_option maxRecDepth 100000 in
set_option maxHeartbeats 1600000 in
theorem catch_panicking (p q : Addr) (x y : Value) (older : List PanicEntry) (w : World) (hp : w.cell? p = some x) (hzp : w.frozen? p = false)
    (hq : (w.setCell p (.float .f64 0)).cell? q = some y) (hzq : (w.setCell p (.float .f64 0)).frozen? q = false) :
    CallsD Tryd.prog 28 #[.pointer (some p), .pointer (some q)] (.panicking ({ v := .iface 29 (.int .i64 10), recovered := false } :: older)) w fun e u' w' =>
      e = .returned (.tuple #[]) ∧ u' = .panicking ({ v := .iface 29 (.int .i64 10), recovered := true } :: older) ∧ w' = (w.setCell p (.float .f64 0)).setCell q (.int .i64 10) := by
  refine callsD_of_wpS Tryd.func28 rfl fun c₀ cs hu => ?_
  have HP := Lib.hid hp
  have HQ := Lib.hid hq
  have HZP := Lib.hid hzp
  have HZQ := Lib.hid hzq
  clear hp hq hzp hzq
  apply wpS_seq
  apply wpS_region
  simp [wpOpsS, go_sem, recoverD, hu, Tryd.ntmps28, Exit.thenS]
  have HU := Lib.hid hu
  clear hu
  rw [show (#[Value.pointer (some p), Value.pointer (some q)] ++ ((Array.replicate 15 undef).setIfInBounds 3 (Value.iface 29 (Value.int IntKind.i64 10))).setIfInBounds 0 (Value.iface 29 (Value.int IntKind.i64 10)) : Array Value)
    = #[.pointer (some p), .pointer (some q), .iface 29 (.int .i64 10), undef, undef, .iface 29 (.int .i64 10), undef, undef, undef, undef, undef, undef, undef, undef, undef, undef, undef] from rfl]
  generalize hc1 : { c₀ with mode := FrameMode.panicking ({ v := Value.iface 29 (Value.int IntKind.i64 10), recovered := true, goexit := false } :: older) } = c1
  have HC := Lib.hid hc1
  clear hc1
  refine wpS_of_wp ?_
  generalize hq : (fun e a' w' => bodyPostS Tryd.prog Tryd.f28 c₀ cs (fun e u' w' =>
      e = Ending.returned (Value.tuple #[]) ∧
        u' = FrameMode.panicking ({ v := Value.iface 29 (Value.int IntKind.i64 10), recovered := true } :: older) ∧
          w' = (w.setCell p (Value.float FloatKind.f64 0)).setCell q (Value.int IntKind.i64 10)) e a' (c1 :: cs) w') = Q
  have HQQ := Lib.hid hq
  clear hq
  have hta : ∀ w, (Instr.typeAssert (.iface 29 (.int .i64 10)) 20 29 true).run Tryd.prog w = .ok (.tuple #[.int .i64 10, .bool true]) w := fun _ => by kernel_rfl
  have hst : ∀ (w : World) (a : Addr) (b : Nat) (m : Mode), (store a (.float .f64 b) m).run Tryd.prog w = stored Tryd.prog w a (.float .f64 b) m := fun w a b m => run_store Tryd.prog w a _ m rfl
  have hp := HP.out
  have hq := HQ.out
  have hzp := HZP.out
  have hzq := HZQ.out
  go_wp2
  have e := HQQ.out
  subst e
  have e1 := HC.out
  subst e1
  cases c₀
  simp [bodyPostS, results, Tryd.results28]
end Go.Proofs.YtgppadnbfggkcaaDoor
