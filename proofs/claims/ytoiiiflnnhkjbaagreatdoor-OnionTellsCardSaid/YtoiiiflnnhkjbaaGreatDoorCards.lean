/-
  DERIVED. GIVEN WITH THE SEED: THE CARDS: each row of YtoiiiflnnhkjbaaGreatDoorRows.lean that lists a variable, with what it lists TIED to the program's text (the seventh form; the later family's looks); each row that meets fmt, with fmt's text TOLD by the authors' own Lean function (tested against real Go, not proved from fmt's source: count such statements apart). THE CARD IS WHAT COUNTS. Prove the row's statement (the work); the ties are given (YtoiiiflnnhkjbaaGreatDoorTie.lean); close each card by the builder's one call (the guide's Derived/Test/ToyasCard.lean, 'card_holds'). Laid BY PROGRAM, IN A SANDBOX (cutbox-door.mjs). By AI agents, Wed Nov 11 2026. No macro, syntax, notation, axiom, sorry.
-/
import Derived.Test.YtoiiiflnnhkjbaaGreatDoorRows
import GoSem.ClaimSeven
namespace Go.Proofs.YtoiiiflnnhkjbaaGreatDoor
namespace Rows

/-- THE TIED CARD OF 'hourglasslaw11.OnionTells'. -/
def onionTellsCard : Claim7 := { stood := { row := onionTellsRow, standIns := [], harness := (true, "d7be622ba97e962bbe4b2a3753ef5d41b6a017bec550e8e119f3348741044739"), looks := false }, kinds := [], alts := [], laidByText := true, laidKinds := [.data, .data, .data, .data], laidTests := true, laidLooks := .later }
def OnionTellsCardSaid : Prop := Claim7.holds Tryz.pinned (.plain (OpenSpec.ofChange onionTellsSpec)) onionTellsCard

/-- THE SECOND FORM's CARD OF 'hourglasslaw11.OnionTells'. -/
def onionTellsUptoCard : Claim7 := { stood := { row := onionTellsUptoRow, standIns := [], harness := (true, "d7be622ba97e962bbe4b2a3753ef5d41b6a017bec550e8e119f3348741044739"), looks := false }, kinds := [], alts := [], laidByText := true, laidKinds := [.data, .data, .data, .data], laidTests := true, laidLooks := .later }
def OnionTellsUptoCardSaid : Prop := Claim7.holds Tryz.pinned (.plain (OpenSpec.upto onionTellsSpec)) onionTellsUptoCard
end Rows
end Go.Proofs.YtoiiiflnnhkjbaaGreatDoor
