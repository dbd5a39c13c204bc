/-
  DERIVED. GIVEN WITH THE SEED: THE PROGRAM's TIES (one call each: nine closed facts by the kernel) AND EACH ROW's TIE, after the 31st guide's Derived/Test/Toyas{Tie, Card}.lean. No idea stands in it: it is a product of the set-up. Laid BY PROGRAM, IN A SANDBOX (cutbox-door.mjs). By AI agents, Wed Nov 11 2026. No macro, syntax, notation, axiom, sorry.
-/
import Derived.Test.YtoiiiflnnhkjbaaGreatDoorRows
import Derived.LaidByTextLater
import Derived.SevenTiedAt
import Derived.LaidSub
import Derived.LaidOnce
namespace Go.Proofs.YtoiiiflnnhkjbaaGreatDoor
open Go
set_option maxRecDepth 100000
theorem seatTie1 : Tryz.prog.laidByTextLater [("hourglass/sha.k", Rows.laid_hourglass_sha_k), ("hourglass/sha.first", Rows.laid_hourglass_sha_first), ("hourglass/chacha.first", Rows.laid_hourglass_chacha_first), ("hourglass/chacha.quarters", Rows.laid_hourglass_chacha_quarters)] [.data, .data, .data, .data] true :=
  Program.laidByTextLater_by_one 37 8 65 (by kernel_rfl) (by kernel_rfl) (by kernel_rfl) (by kernel_rfl) (by kernel_rfl) (by kernel_rfl) (fun _ _ => by kernel_rfl)
theorem noOwnUnsafe : Tryz.pinned.checked.prog.headLifts.contains "ownunsafe" = false := by kernel_rfl
theorem tie : Tryz.prog.laidByTextLater [("hourglass/sha.k", Rows.laid_hourglass_sha_k), ("hourglass/sha.first", Rows.laid_hourglass_sha_first), ("hourglass/chacha.first", Rows.laid_hourglass_chacha_first), ("hourglass/chacha.quarters", Rows.laid_hourglass_chacha_quarters)] [.data, .data, .data, .data] true :=
  Program.laidByTextLater.sub seatTie1 ["hourglass/sha.k", "hourglass/sha.first", "hourglass/chacha.first", "hourglass/chacha.quarters"] (by kernel_rfl) (by kernel_rfl)
theorem onionTells_row_tie : Rows.onionTellsRow.laidByTextAt .later Tryz.pinned [.data, .data, .data, .data] true :=
  OpenClaim.laidByTextAt_later rfl rfl tie noOwnUnsafe
theorem onionTellsUpto_row_tie : Rows.onionTellsUptoRow.laidByTextAt .later Tryz.pinned [.data, .data, .data, .data] true :=
  OpenClaim.laidByTextAt_later rfl rfl tie noOwnUnsafe
end Go.Proofs.YtoiiiflnnhkjbaaGreatDoor
