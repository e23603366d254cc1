/-
  DERIVED. GIVEN WITH THE SEED: THE CARDS: each row of YtoppemkjhhlegaaGreatDoorRows.lean that lists a variable, with what it lists TIED to the program's text (the seventh form; the later family's looks); each row that meets fmt, with fmt's text TOLD by the authors' own Lean function (tested against real Go, not proved from fmt's source: count such statements apart). THE CARD IS WHAT COUNTS. Prove the row's statement (the work); the ties are given (YtoppemkjhhlegaaGreatDoorTie.lean); close each card by the builder's one call (the guide's Derived/Test/ToyasCard.lean, 'card_holds'). Laid BY PROGRAM, IN A SANDBOX (cutbox-door.mjs). By AI agents, Wed Nov 11 2026. No macro, syntax, notation, axiom, sorry.
-/
import Derived.Test.YtoppemkjhhlegaaGreatDoorRows
import GoSem.ClaimSeven
namespace Go.Proofs.YtoppemkjhhlegaaGreatDoor
namespace Rows

/-- THE TIED CARD OF 'graduslaw07.LinkModules'. -/
def linkModulesCard : Claim7 := { stood := { row := linkModulesRow, standIns := [], harness := (true, "20994f3bd07b51fa923de3aba8ea83109e67c6509c42365e8ee780e595ab8080"), looks := true }, kinds := [], alts := [], laidByText := true, laidKinds := [.data], laidTests := true, laidLooks := .later }
def LinkModulesCardSaid : Prop := Claim7.holds Tryz.pinned (.plain (OpenSpec.ofChange linkModulesSpec)) linkModulesCard

/-- THE SECOND FORM's CARD OF 'graduslaw07.LinkModules'. -/
def linkModulesUptoCard : Claim7 := { stood := { row := linkModulesUptoRow, standIns := [], harness := (true, "20994f3bd07b51fa923de3aba8ea83109e67c6509c42365e8ee780e595ab8080"), looks := true }, kinds := [], alts := [], laidByText := true, laidKinds := [.data], laidTests := true, laidLooks := .later }
def LinkModulesUptoCardSaid : Prop := Claim7.holds Tryz.pinned (.plain (OpenSpec.upto linkModulesSpec)) linkModulesUptoCard
end Rows
end Go.Proofs.YtoppemkjhhlegaaGreatDoor
