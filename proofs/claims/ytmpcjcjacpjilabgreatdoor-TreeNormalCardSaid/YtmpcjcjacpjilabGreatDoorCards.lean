/-
  DERIVED. GIVEN WITH THE SEED: THE CARDS: each row of YtmpcjcjacpjilabGreatDoorRows.lean that lists a variable, with what it lists TIED to the program's text (the seventh form; the later family's looks); each row that meets fmt, with fmt's text TOLD by the authors' own Lean function (tested against real Go, not proved from fmt's source: count such statements apart). THE CARD IS WHAT COUNTS. Prove the row's statement (the work); the ties are given (YtmpcjcjacpjilabGreatDoorTie.lean); close each card by the builder's one call (the guide's Derived/Test/ToyasCard.lean, 'card_holds'). Laid BY PROGRAM, IN A SANDBOX (cutbox-door.mjs). By AI agents, Wed Nov 11 2026. No macro, syntax, notation, axiom, sorry.
-/
import Derived.Test.YtmpcjcjacpjilabGreatDoorRows
import GoSem.ClaimSeven
namespace Go.Proofs.YtmpcjcjacpjilabGreatDoor
namespace Rows

/-- THE TIED CARD OF 'graduslaw04.TreeNormal'. -/
def treeNormalCard : Claim7 := { stood := { row := treeNormalRow, standIns := [], harness := (true, "8a1387313dd260f042e550304c9a3527e90f5dffe096fad2630a229ef7a99526"), looks := false }, kinds := [], alts := [], laidByText := true, laidKinds := [.data, .data, .data, .data, .data, .data, .data, .data, .data, .data, .data], laidTests := true, laidLooks := .later }
def TreeNormalCardSaid : Prop := Claim7.holds Tryz.pinned (.plain (OpenSpec.ofChange treeNormalSpec)) treeNormalCard

/-- THE SECOND FORM's CARD OF 'graduslaw04.TreeNormal'. -/
def treeNormalUptoCard : Claim7 := { stood := { row := treeNormalUptoRow, standIns := [], harness := (true, "8a1387313dd260f042e550304c9a3527e90f5dffe096fad2630a229ef7a99526"), looks := false }, kinds := [], alts := [], laidByText := true, laidKinds := [.data, .data, .data, .data, .data, .data, .data, .data, .data, .data, .data], laidTests := true, laidLooks := .later }
def TreeNormalUptoCardSaid : Prop := Claim7.holds Tryz.pinned (.plain (OpenSpec.upto treeNormalSpec)) treeNormalUptoCard
end Rows
end Go.Proofs.YtmpcjcjacpjilabGreatDoor
