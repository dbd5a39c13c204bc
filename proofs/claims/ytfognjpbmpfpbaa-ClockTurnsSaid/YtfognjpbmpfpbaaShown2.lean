/-
  What must be in any case: a closed call, run by the kernel.
-/
import Derived.Test.YtfognjpbmpfpbaaRun
namespace Go.Proofs.Ytfognjpbmpfpbaa
set_option linter.unusedVariables false

theorem shown2 (w : World) : Calls Try.prog 12 #[] w fun e w' => e = .returned (.bool true) ∧ w = w' :=
  calls_of_fin (v := .bool true) (w1 := w) 4000 (fun cs => by kernel_rfl) ⟨rfl, rfl⟩
end Go.Proofs.Ytfognjpbmpfpbaa
