/-
  DERIVED. GIVEN WITH THE SEED: THE CARDS: each row of YtgblonhfidoleaaDoorRows.lean that lists a variable, with what it lists TIED to the program's text (the seventh form; the later family's looks); each row that meets fmt, with fmt's text TOLD by the authors' own Lean function (tested against real Go, not proved from fmt's source: count such statements apart). THE CARD IS WHAT COUNTS. Prove the row's statement (the work); the ties are given (YtgblonhfidoleaaDoorTie.lean); close each card by the builder's one call (the guide's Derived/Test/ToyasCard.lean, 'card_holds'). Laid BY PROGRAM, IN A SANDBOX (cutbox-door.mjs). By AI agents, Wed Nov 11 2026. No macro, syntax, notation, axiom, sorry.
-/
import Derived.Test.YtgblonhfidoleaaDoorRows
import GoSem.ClaimSeven
namespace Go.Proofs.YtgblonhfidoleaaDoor
namespace Rows

/-- THE TIED CARD OF 'graduslaw07.LinkFaults'. -/
def linkFaultsCard : Claim7 := { stood := { row := linkFaultsRow, standIns := [], harness := (true, "d5f672600a84c8b5ff05e53306fc5867c610f23f152dd0d1572709b911493ab4"), looks := true }, kinds := [], alts := [], laidByText := true, laidKinds := [.data], laidTests := true, laidLooks := .later }
def LinkFaultsCardSaid : Prop := Claim7.holds Tryd.pinned (.plain (OpenSpec.ofChange linkFaultsSpec)) linkFaultsCard

/-- THE TIED CARD OF 'graduslaw07.LinkOrder'. -/
def linkOrderCard : Claim7 := { stood := { row := linkOrderRow, standIns := [], harness := (true, "d5f672600a84c8b5ff05e53306fc5867c610f23f152dd0d1572709b911493ab4"), looks := true }, kinds := [], alts := [], laidByText := true, laidKinds := [.data], laidTests := true, laidLooks := .later }
def LinkOrderCardSaid : Prop := Claim7.holds Tryd.pinned (.plain (OpenSpec.ofChange linkOrderSpec)) linkOrderCard

/-- THE TIED CARD OF 'graduslaw07.LinkScopes'. -/
def linkScopesCard : Claim7 := { stood := { row := linkScopesRow, standIns := [], harness := (true, "d5f672600a84c8b5ff05e53306fc5867c610f23f152dd0d1572709b911493ab4"), looks := true }, kinds := [], alts := [], laidByText := true, laidKinds := [.data], laidTests := true, laidLooks := .later }
def LinkScopesCardSaid : Prop := Claim7.holds Tryd.pinned (.plain (OpenSpec.ofChange linkScopesSpec)) linkScopesCard

/-- THE TIED CARD OF 'graduslaw07.LinkBlanks'. -/
def linkBlanksCard : Claim7 := { stood := { row := linkBlanksRow, standIns := [], harness := (true, "d5f672600a84c8b5ff05e53306fc5867c610f23f152dd0d1572709b911493ab4"), looks := true }, kinds := [], alts := [], laidByText := true, laidKinds := [.data], laidTests := true, laidLooks := .later }
def LinkBlanksCardSaid : Prop := Claim7.holds Tryd.pinned (.plain (OpenSpec.ofChange linkBlanksSpec)) linkBlanksCard

/-- THE SECOND FORM's CARD OF 'graduslaw07.LinkFaults'. -/
def linkFaultsUptoCard : Claim7 := { stood := { row := linkFaultsUptoRow, standIns := [], harness := (true, "d5f672600a84c8b5ff05e53306fc5867c610f23f152dd0d1572709b911493ab4"), looks := true }, kinds := [], alts := [], laidByText := true, laidKinds := [.data], laidTests := true, laidLooks := .later }
def LinkFaultsUptoCardSaid : Prop := Claim7.holds Tryd.pinned (.plain (OpenSpec.upto linkFaultsSpec)) linkFaultsUptoCard

/-- THE SECOND FORM's CARD OF 'graduslaw07.LinkOrder'. -/
def linkOrderUptoCard : Claim7 := { stood := { row := linkOrderUptoRow, standIns := [], harness := (true, "d5f672600a84c8b5ff05e53306fc5867c610f23f152dd0d1572709b911493ab4"), looks := true }, kinds := [], alts := [], laidByText := true, laidKinds := [.data], laidTests := true, laidLooks := .later }
def LinkOrderUptoCardSaid : Prop := Claim7.holds Tryd.pinned (.plain (OpenSpec.upto linkOrderSpec)) linkOrderUptoCard

/-- THE SECOND FORM's CARD OF 'graduslaw07.LinkScopes'. -/
def linkScopesUptoCard : Claim7 := { stood := { row := linkScopesUptoRow, standIns := [], harness := (true, "d5f672600a84c8b5ff05e53306fc5867c610f23f152dd0d1572709b911493ab4"), looks := true }, kinds := [], alts := [], laidByText := true, laidKinds := [.data], laidTests := true, laidLooks := .later }
def LinkScopesUptoCardSaid : Prop := Claim7.holds Tryd.pinned (.plain (OpenSpec.upto linkScopesSpec)) linkScopesUptoCard

/-- THE SECOND FORM's CARD OF 'graduslaw07.LinkBlanks'. -/
def linkBlanksUptoCard : Claim7 := { stood := { row := linkBlanksUptoRow, standIns := [], harness := (true, "d5f672600a84c8b5ff05e53306fc5867c610f23f152dd0d1572709b911493ab4"), looks := true }, kinds := [], alts := [], laidByText := true, laidKinds := [.data], laidTests := true, laidLooks := .later }
def LinkBlanksUptoCardSaid : Prop := Claim7.holds Tryd.pinned (.plain (OpenSpec.upto linkBlanksSpec)) linkBlanksUptoCard
end Rows
end Go.Proofs.YtgblonhfidoleaaDoor
