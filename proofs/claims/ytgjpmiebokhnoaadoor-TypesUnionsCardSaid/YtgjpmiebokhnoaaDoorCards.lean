/-
  DERIVED. GIVEN WITH THE SEED: THE CARDS: each row of YtgjpmiebokhnoaaDoorRows.lean that lists a variable, with what it lists TIED to the program's text (the seventh form; the later family's looks); each row that meets fmt, with fmt's text TOLD by the authors' own Lean function (tested against real Go, not proved from fmt's source: count such statements apart). THE CARD IS WHAT COUNTS. Prove the row's statement (the work); the ties are given (YtgjpmiebokhnoaaDoorTie.lean); close each card by the builder's one call (the guide's Derived/Test/ToyasCard.lean, 'card_holds'). Laid BY PROGRAM, IN A SANDBOX (cutbox-door.mjs). By AI agents, Wed Nov 11 2026. No macro, syntax, notation, axiom, sorry.
-/
import Derived.Test.YtgjpmiebokhnoaaDoorRows
import GoSem.ClaimSeven
namespace Go.Proofs.YtgjpmiebokhnoaaDoor
namespace Rows

/-- THE TIED CARD OF 'graduslaw03.TypesNorm'. -/
def typesNormCard : Claim7 := { stood := { row := typesNormRow, standIns := [], harness := (true, "d7b796f7ac2e8e1c12dd05e73f40d86163d0cbf9687341a07f53e62a1324415c"), looks := false }, kinds := [], alts := [], laidByText := true, laidKinds := [.data, .data], laidTests := true, laidLooks := .later }
def TypesNormCardSaid : Prop := Claim7.holds Tryd.pinned (.plain (OpenSpec.ofChange typesNormSpec)) typesNormCard

/-- THE TIED CARD OF 'graduslaw03.TypesMeasure'. -/
def typesMeasureCard : Claim7 := { stood := { row := typesMeasureRow, standIns := [], harness := (true, "d7b796f7ac2e8e1c12dd05e73f40d86163d0cbf9687341a07f53e62a1324415c"), looks := false }, kinds := [], alts := [], laidByText := true, laidKinds := [.data, .data], laidTests := true, laidLooks := .later }
def TypesMeasureCardSaid : Prop := Claim7.holds Tryd.pinned (.plain (OpenSpec.ofChange typesMeasureSpec)) typesMeasureCard

/-- THE TIED CARD OF 'graduslaw03.TypesSame'. -/
def typesSameCard : Claim7 := { stood := { row := typesSameRow, standIns := [], harness := (true, "d7b796f7ac2e8e1c12dd05e73f40d86163d0cbf9687341a07f53e62a1324415c"), looks := false }, kinds := [], alts := [], laidByText := true, laidKinds := [.data, .data], laidTests := true, laidLooks := .later }
def TypesSameCardSaid : Prop := Claim7.holds Tryd.pinned (.plain (OpenSpec.ofChange typesSameSpec)) typesSameCard

/-- THE TIED CARD OF 'graduslaw03.TypesShow'. -/
def typesShowCard : Claim7 := { stood := { row := typesShowRow, standIns := [], harness := (true, "d7b796f7ac2e8e1c12dd05e73f40d86163d0cbf9687341a07f53e62a1324415c"), looks := false }, kinds := [], alts := [], laidByText := true, laidKinds := [.data, .data], laidTests := true, laidLooks := .later }
def TypesShowCardSaid : Prop := Claim7.holds Tryd.pinned (.plain (OpenSpec.ofChange typesShowSpec)) typesShowCard

/-- THE TIED CARD OF 'graduslaw03.TypesTags'. -/
def typesTagsCard : Claim7 := { stood := { row := typesTagsRow, standIns := [], harness := (true, "d7b796f7ac2e8e1c12dd05e73f40d86163d0cbf9687341a07f53e62a1324415c"), looks := false }, kinds := [], alts := [], laidByText := true, laidKinds := [.data, .data], laidTests := true, laidLooks := .later }
def TypesTagsCardSaid : Prop := Claim7.holds Tryd.pinned (.plain (OpenSpec.ofChange typesTagsSpec)) typesTagsCard

/-- THE TIED CARD OF 'graduslaw03.TypesUnions'. -/
def typesUnionsCard : Claim7 := { stood := { row := typesUnionsRow, standIns := [], harness := (true, "d7b796f7ac2e8e1c12dd05e73f40d86163d0cbf9687341a07f53e62a1324415c"), looks := false }, kinds := [], alts := [], laidByText := true, laidKinds := [.data, .data], laidTests := true, laidLooks := .later }
def TypesUnionsCardSaid : Prop := Claim7.holds Tryd.pinned (.plain (OpenSpec.ofChange typesUnionsSpec)) typesUnionsCard

/-- THE SECOND FORM's CARD OF 'graduslaw03.TypesNorm'. -/
def typesNormUptoCard : Claim7 := { stood := { row := typesNormUptoRow, standIns := [], harness := (true, "d7b796f7ac2e8e1c12dd05e73f40d86163d0cbf9687341a07f53e62a1324415c"), looks := false }, kinds := [], alts := [], laidByText := true, laidKinds := [.data, .data], laidTests := true, laidLooks := .later }
def TypesNormUptoCardSaid : Prop := Claim7.holds Tryd.pinned (.plain (OpenSpec.upto typesNormSpec)) typesNormUptoCard

/-- THE SECOND FORM's CARD OF 'graduslaw03.TypesMeasure'. -/
def typesMeasureUptoCard : Claim7 := { stood := { row := typesMeasureUptoRow, standIns := [], harness := (true, "d7b796f7ac2e8e1c12dd05e73f40d86163d0cbf9687341a07f53e62a1324415c"), looks := false }, kinds := [], alts := [], laidByText := true, laidKinds := [.data, .data], laidTests := true, laidLooks := .later }
def TypesMeasureUptoCardSaid : Prop := Claim7.holds Tryd.pinned (.plain (OpenSpec.upto typesMeasureSpec)) typesMeasureUptoCard

/-- THE SECOND FORM's CARD OF 'graduslaw03.TypesSame'. -/
def typesSameUptoCard : Claim7 := { stood := { row := typesSameUptoRow, standIns := [], harness := (true, "d7b796f7ac2e8e1c12dd05e73f40d86163d0cbf9687341a07f53e62a1324415c"), looks := false }, kinds := [], alts := [], laidByText := true, laidKinds := [.data, .data], laidTests := true, laidLooks := .later }
def TypesSameUptoCardSaid : Prop := Claim7.holds Tryd.pinned (.plain (OpenSpec.upto typesSameSpec)) typesSameUptoCard

/-- THE SECOND FORM's CARD OF 'graduslaw03.TypesShow'. -/
def typesShowUptoCard : Claim7 := { stood := { row := typesShowUptoRow, standIns := [], harness := (true, "d7b796f7ac2e8e1c12dd05e73f40d86163d0cbf9687341a07f53e62a1324415c"), looks := false }, kinds := [], alts := [], laidByText := true, laidKinds := [.data, .data], laidTests := true, laidLooks := .later }
def TypesShowUptoCardSaid : Prop := Claim7.holds Tryd.pinned (.plain (OpenSpec.upto typesShowSpec)) typesShowUptoCard

/-- THE SECOND FORM's CARD OF 'graduslaw03.TypesTags'. -/
def typesTagsUptoCard : Claim7 := { stood := { row := typesTagsUptoRow, standIns := [], harness := (true, "d7b796f7ac2e8e1c12dd05e73f40d86163d0cbf9687341a07f53e62a1324415c"), looks := false }, kinds := [], alts := [], laidByText := true, laidKinds := [.data, .data], laidTests := true, laidLooks := .later }
def TypesTagsUptoCardSaid : Prop := Claim7.holds Tryd.pinned (.plain (OpenSpec.upto typesTagsSpec)) typesTagsUptoCard

/-- THE SECOND FORM's CARD OF 'graduslaw03.TypesUnions'. -/
def typesUnionsUptoCard : Claim7 := { stood := { row := typesUnionsUptoRow, standIns := [], harness := (true, "d7b796f7ac2e8e1c12dd05e73f40d86163d0cbf9687341a07f53e62a1324415c"), looks := false }, kinds := [], alts := [], laidByText := true, laidKinds := [.data, .data], laidTests := true, laidLooks := .later }
def TypesUnionsUptoCardSaid : Prop := Claim7.holds Tryd.pinned (.plain (OpenSpec.upto typesUnionsSpec)) typesUnionsUptoCard
end Rows
end Go.Proofs.YtgjpmiebokhnoaaDoor
