
/- Contracts of view.Try: true where the function returns, false where it panics by what Fail throws; of view.Of. No condition. -/
import Derived.Test.YthjnpfhcjacibaaView
import Derived.Defers
import Derived.Recover
namespace Go.Proofs.Ythjnpfhcjacibaa
open Go.RowKit

theorem assert_thrown (w : World) : (Instr.typeAssert (.iface 55 (.agg #[])) 20 55 true).run Try.prog w = .ok (.tuple #[.agg #[], .bool true]) w := by kernel_rfl
theorem assert_nil (w : World) : (Instr.typeAssert .nilIface 20 55 true).run Try.prog w = .ok (.tuple #[.agg #[], .bool false]) w := by kernel_rfl

set_option maxHeartbeats 400000 in
theorem catch_thrown (older : List PanicEntry) (w : World) :
    CallsD Try.prog 17 #[] (.panicking ({ v := thrownV, recovered := false } :: older)) w fun e u' w' =>
      e = .returned (.tuple #[]) ∧ u' = .panicking ({ v := thrownV, recovered := true } :: older) ∧ w' = w := by
  refine callsD_of_wpS Try.func17 rfl fun c₀ cs hu => ?_
  apply wpS_seq
  apply wpS_region
  simp [wpOpsS, go_sem, recoverD, hu, Try.ntmps17, Exit.thenS]
  refine wpS_of_wp ?_
  unfold thrownV
  clear hu
  have hr : (Array.replicate 9 undef).setIfInBounds 2 (Value.iface 55 (.agg #[])) = #[undef, undef, .iface 55 (.agg #[]), undef, undef, undef, undef, undef, undef] := rfl
  rw [hr]
  clear hr
  have hT := assert_thrown
  go_wp2
  simp [bodyPostS, results, Try.results17]

set_option maxHeartbeats 400000 in
theorem catch_idle (w : World) :
    CallsD Try.prog 17 #[] .returning w fun e u' w' => e = .returned (.tuple #[]) ∧ u' = .returning ∧ w' = w := by
  refine callsD_of_wpS Try.func17 rfl fun c₀ cs hu => ?_
  apply wpS_seq
  apply wpS_region
  simp [wpOpsS, go_sem, recoverD, hu, Try.ntmps17, Exit.thenS]
  refine wpS_of_wp ?_
  have hr : (Array.replicate 9 undef).setIfInBounds 2 Value.nilIface = #[undef, undef, .nilIface, undef, undef, undef, undef, undef, undef] := rfl
  rw [hr]
  clear hr
  obtain ⟨_, _, _, _, _, _, _⟩ := c₀
  simp only at hu
  subst hu
  have hT := assert_nil
  go_wp2
  simp [bodyPostS, results, Try.results17]


theorem func_nil (fn : Fn) (first cap : Array Value) (w : World) : (binOp .eql 1 (.func fn first cap) .nilFunc).run Try.prog w = .ok (.bool false) w := by kernel_rfl
set_option maxHeartbeats 400000 in
/-- Try of a function that returns, or throws. -/
theorem try_any (G : FuncId) (cap : Array Value) (w : World) (R : Bool → World → Prop)
    (hinv : ∀ w, (callFunc G cap).run Try.prog w = .ok (.enter G cap) w)
    (h : Calls Try.prog G cap w fun e w' => (e = .returned (.tuple #[]) ∧ R true w') ∨ (e = .panicked thrown ∧ R false w')) :
    Calls Try.prog 11 #[.func (.func G) #[] cap] w fun e w' => ∃ ok, e = .returned (.bool ok) ∧ R ok w' := by
  go_enter_defers Try.func11, Try.ntmps11
  have H := Lib.hid h
  have hN := func_nil
  clear h
  go_wp2_with fail
  refine H.out.mono ?_
  clear H
  rintro e w' (⟨rfl, hR⟩ | ⟨rfl, hR⟩)
  · have HR := Lib.hid hR
    clear hR
    go_wp2
    refine leaves_cons (f := 17) (args := #[]) (by simp) (by simp [go_sem]) ?_
    refine (catch_idle _).mono ?_
    rintro e u' w'' ⟨rfl, rfl, rfl⟩
    simp [Leaves, settle, results, Try.results11, go_sem, HR.out]
  · refine leaves_cons (f := 17) (args := #[]) (by simp) (by simp [go_sem]) ?_
    refine (catch_thrown [] _).mono ?_
    rintro e u' w'' ⟨rfl, rfl, rfl⟩
    simp [Leaves, settle, results, Try.results11, go_sem, hR]
end Go.Proofs.Ythjnpfhcjacibaa
