/- The program's asked: what is answered, under a deferred call that has nothing to recover. -/
import Derived.Test.YtcedkilgfoiifaaDkP14
import Derived.Defers
import Derived.Recover
namespace Go.Proofs.Ytcedkilgfoiifaa
open Go.RowKit Base Base2

theorem catch46 (w : World) : CallsD Try.prog 46 #[] .returning w fun e u' w' => e = .returned (.tuple #[]) ∧ u' = .returning ∧ w' = w := by
  refine callsD_of_wpS Try.func46 rfl fun c₀ cs hu => ?_
  apply wpS_region
  simp [wpOpsS, go_sem, recoverD, hu, Try.ntmps46, bodyPostS, results, Try.results46]
  cases c₀
  simp_all
set_option maxRecDepth 100000 in
theorem asked39 (f : Nat) (caps : Array Value) (i : Nat) (z : Int) (w : World) (HE : ∀ (args : Array Value) (w : World), (callFunc f args).run Try.prog w = .ok (.enter f args) w) (hc : Calls Try.prog f (#[.int .i64 (i : Int)] ++ caps) w fun e w' => e = .returned (.int .i64 z) ∧ w' = w) :
    Calls Try.prog 39 #[.func (.func f) #[] caps, .int .i64 (i : Int)] w fun e w' => e = .returned (.tuple #[.int .i64 z, .int .i64 0]) ∧ w' = w := by
  have HC := Lib.hid hc
  clear hc
  go_enter_defers Try.func39, Try.ntmps39
  go_wp2_with (refine HC.out.mono ?_; rintro e w1 ⟨rfl, rfl⟩)
  refine leaves_cons (f := 46) (args := #[]) (by simp) (by simp [go_sem]) ?_
  refine (catch46 _).mono ?_
  rintro e u' w'' ⟨rfl, rfl, rfl⟩
  simp [Leaves, settle, results, Try.results39, go_sem]
end Go.Proofs.Ytcedkilgfoiifaa
