/-
  A region that draws its order, in a class of worlds of one's own: what is made ready for its walk in the order of the text.
-/
import Derived.Test.YtdilfiojfjgejaaRows
import Derived.WalkKit
import Derived.Deep.QuietTactic
namespace Go.Proofs.Ytdilfiojfjgejaa
set_option linter.unusedVariables false
open Go.RowKit

theorem wp_region_class {P : Program} (C : World → Prop) {id : Nat} {Q : Exit → Act → World → Prop} {a : Act} {w : World} {l : List Oper} (hm : P.follows .mixedOrders = true) (hB : Region.lexB .any l.toArray = true) (hC : C w.drew)
    (h : wpQuiet P l.toArray C (fun a' => ∀ w', C w' → Q .normal a' w') l a) : (Code.region id l.toArray true).wp P Q a w :=
  wp_region_quiet (C := C) hm hB hC (by simpa using h)
end Go.Proofs.Ytdilfiojfjgejaa
