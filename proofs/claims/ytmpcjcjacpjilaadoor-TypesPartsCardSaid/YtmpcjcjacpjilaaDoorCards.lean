/-
  DERIVED. GIVEN WITH THE SEED: THE CARDS: each row of YtmpcjcjacpjilaaDoorRows.lean that lists a variable, with what it lists TIED to the program's text (the seventh form; the later family's looks); each row that meets fmt, with fmt's text TOLD by the authors' own Lean function (tested against real Go, not proved from fmt's source: count such statements apart). THE CARD IS WHAT COUNTS. Prove the row's statement (the work); the ties are given (YtmpcjcjacpjilaaDoorTie.lean); close each card by the builder's one call (the guide's Derived/Test/ToyasCard.lean, 'card_holds'). Laid BY PROGRAM, IN A SANDBOX (cutbox-door.mjs). By AI agents, Wed Nov 11 2026. No macro, syntax, notation, axiom, sorry.
-/
import Derived.Test.YtmpcjcjacpjilaaDoorRows
import GoSem.ClaimSeven
namespace Go.Proofs.YtmpcjcjacpjilaaDoor
namespace Rows

/-- THE TIED CARD OF 'graduslaw03.TypesTags'. -/
def typesTagsCard : Claim7 := { stood := { row := typesTagsRow, standIns := [], harness := (true, "df5018eef9b350cfb8a22d9dd5d043a20e626a165c439657536322428ffb9bd5"), looks := false }, kinds := [], alts := [], laidByText := true, laidKinds := [.data, .data], laidTests := true, laidLooks := .later }
def TypesTagsCardSaid : Prop := Claim7.holds Tryd.pinned (.plain (OpenSpec.ofChange typesTagsSpec)) typesTagsCard

/-- THE TIED CARD OF 'graduslaw03.TypesParts'. -/
def typesPartsCard : Claim7 := { stood := { row := typesPartsRow, standIns := [], harness := (true, "df5018eef9b350cfb8a22d9dd5d043a20e626a165c439657536322428ffb9bd5"), looks := false }, kinds := [], alts := [], laidByText := true, laidKinds := [.data, .data], laidTests := true, laidLooks := .later }
def TypesPartsCardSaid : Prop := Claim7.holds Tryd.pinned (.plain (OpenSpec.ofChange typesPartsSpec)) typesPartsCard

/-- THE TIED CARD OF 'graduslaw04.TreeExprs'. -/
def treeExprsCard : Claim7 := { stood := { row := treeExprsRow, standIns := [], harness := (true, "df5018eef9b350cfb8a22d9dd5d043a20e626a165c439657536322428ffb9bd5"), looks := false }, kinds := [], alts := [], laidByText := true, laidKinds := [.data, .data, .data, .data, .data, .data, .data, .data, .data, .data], laidTests := true, laidLooks := .later }
def TreeExprsCardSaid : Prop := Claim7.holds Tryd.pinned (.plain (OpenSpec.ofChange treeExprsSpec)) treeExprsCard

/-- THE TIED CARD OF 'graduslaw04.TreeTypes'. -/
def treeTypesCard : Claim7 := { stood := { row := treeTypesRow, standIns := [], harness := (true, "df5018eef9b350cfb8a22d9dd5d043a20e626a165c439657536322428ffb9bd5"), looks := false }, kinds := [], alts := [], laidByText := true, laidKinds := [.data, .data, .data, .data, .data, .data, .data, .data, .data, .data], laidTests := true, laidLooks := .later }
def TreeTypesCardSaid : Prop := Claim7.holds Tryd.pinned (.plain (OpenSpec.ofChange treeTypesSpec)) treeTypesCard

/-- THE SECOND FORM's CARD OF 'graduslaw03.TypesTags'. -/
def typesTagsUptoCard : Claim7 := { stood := { row := typesTagsUptoRow, standIns := [], harness := (true, "df5018eef9b350cfb8a22d9dd5d043a20e626a165c439657536322428ffb9bd5"), looks := false }, kinds := [], alts := [], laidByText := true, laidKinds := [.data, .data], laidTests := true, laidLooks := .later }
def TypesTagsUptoCardSaid : Prop := Claim7.holds Tryd.pinned (.plain (OpenSpec.upto typesTagsSpec)) typesTagsUptoCard

/-- THE SECOND FORM's CARD OF 'graduslaw03.TypesParts'. -/
def typesPartsUptoCard : Claim7 := { stood := { row := typesPartsUptoRow, standIns := [], harness := (true, "df5018eef9b350cfb8a22d9dd5d043a20e626a165c439657536322428ffb9bd5"), looks := false }, kinds := [], alts := [], laidByText := true, laidKinds := [.data, .data], laidTests := true, laidLooks := .later }
def TypesPartsUptoCardSaid : Prop := Claim7.holds Tryd.pinned (.plain (OpenSpec.upto typesPartsSpec)) typesPartsUptoCard

/-- THE SECOND FORM's CARD OF 'graduslaw04.TreeExprs'. -/
def treeExprsUptoCard : Claim7 := { stood := { row := treeExprsUptoRow, standIns := [], harness := (true, "df5018eef9b350cfb8a22d9dd5d043a20e626a165c439657536322428ffb9bd5"), looks := false }, kinds := [], alts := [], laidByText := true, laidKinds := [.data, .data, .data, .data, .data, .data, .data, .data, .data, .data], laidTests := true, laidLooks := .later }
def TreeExprsUptoCardSaid : Prop := Claim7.holds Tryd.pinned (.plain (OpenSpec.upto treeExprsSpec)) treeExprsUptoCard

/-- THE SECOND FORM's CARD OF 'graduslaw04.TreeTypes'. -/
def treeTypesUptoCard : Claim7 := { stood := { row := treeTypesUptoRow, standIns := [], harness := (true, "df5018eef9b350cfb8a22d9dd5d043a20e626a165c439657536322428ffb9bd5"), looks := false }, kinds := [], alts := [], laidByText := true, laidKinds := [.data, .data, .data, .data, .data, .data, .data, .data, .data, .data], laidTests := true, laidLooks := .later }
def TreeTypesUptoCardSaid : Prop := Claim7.holds Tryd.pinned (.plain (OpenSpec.upto treeTypesSpec)) treeTypesUptoCard
end Rows
end Go.Proofs.YtmpcjcjacpjilaaDoor
