/-
  A thing is fetched: bring, whose deferred closure recovers.
-/
import Derived.Test.YthbhdmkbojjjkaaArTake
import Derived.Defers
import Derived.Recover
namespace Go.Proofs.Ythbhdmkbojjjkaa
open Go.RowKit

/-- The deferred closure, where nothing is to be recovered. -/
theorem bring_idle (w : World) : CallsD Try.prog 26 #[] .returning w fun e u' w' => e = .returned (.tuple #[]) ∧ u' = .returning ∧ w' = w := by
  refine callsD_of_wpS Try.func26 rfl fun c₀ cs hu => ?_
  apply wpS_region
  simp [wpOpsS, go_sem, recoverD, hu, Try.ntmps26]
  cases c₀
  simp_all [bodyPostS, results, Try.results26]

theorem bring_calls (j : Nat) (caps : Array Value) (k x : Int) (w : World) (R : World → Prop) (hj : ∀ args w, (callFunc j args).run Try.prog w = .ok (.enter j args) w) (hf : Calls Try.prog j (#[.int .i64 k] ++ caps) w fun e w' => e = .returned (.int .i64 x) ∧ R w') :
    Calls Try.prog 22 #[.int .i64 k, .func (.func j) #[] caps] w fun e w' => e = .returned (.tuple #[.int .i64 x, .bool true]) ∧ R w' := by
  have HF := Lib.hid hf
  clear hf
  go_enter_defers Try.func22, Try.ntmps22
  go_wp2_with fail
  refine HF.out.mono ?_
  rintro e w1 ⟨rfl, hR⟩
  go_wp2
  refine leaves_cons (f := 26) (args := #[]) (by simp) (by simp [go_sem]) ?_
  refine (bring_idle _).mono ?_
  rintro e u' w'' ⟨rfl, rfl, rfl⟩
  simp [Leaves, settle, results, Try.results22, go_sem]
  exact hR

theorem enter_same (args : Array Value) (w : World) : (callFunc 19 args).run Try.prog w = .ok (.enter 19 args) w := by
  simp [go_sem]

end Go.Proofs.Ythbhdmkbojjjkaa
