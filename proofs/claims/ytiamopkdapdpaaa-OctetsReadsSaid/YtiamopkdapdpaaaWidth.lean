/-
  The widths of numbers.
-/
import Derived.Test.YtiamopkdapdpaaaRun
namespace Go.Proofs.Ytiamopkdapdpaaa
set_option linter.unusedVariables false

theorem width8 (w : World) : Calls Try.prog 41 #[] w fun e w' => e = .returned (.int .i64 1) ∧ w = w' :=
  calls_of_fin (v := .int .i64 1) (w1 := w) 1000 (fun cs => by kernel_rfl) ⟨rfl, rfl⟩

theorem width16 (w : World) : Calls Try.prog 44 #[] w fun e w' => e = .returned (.int .i64 2) ∧ w = w' :=
  calls_of_fin (v := .int .i64 2) (w1 := w) 1000 (fun cs => by kernel_rfl) ⟨rfl, rfl⟩

theorem width32 (w : World) : Calls Try.prog 43 #[] w fun e w' => e = .returned (.int .i64 4) ∧ w = w' :=
  calls_of_fin (v := .int .i64 4) (w1 := w) 1000 (fun cs => by kernel_rfl) ⟨rfl, rfl⟩

theorem width64 (w : World) : Calls Try.prog 42 #[] w fun e w' => e = .returned (.int .i64 8) ∧ w = w' :=
  calls_of_fin (v := .int .i64 8) (w1 := w) 1000 (fun cs => by kernel_rfl) ⟨rfl, rfl⟩
end Go.Proofs.Ytiamopkdapdpaaa
