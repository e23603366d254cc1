/-
  DERIVED. GIVEN WITH THE SEED: THE CARDS: each row of YtdlkkflenphkfaaDoorRows.lean that lists a variable, with what it lists TIED to the program's text (the seventh form; the later family's looks); each row that meets fmt, with fmt's text TOLD by the authors' own Lean function (tested against real Go, not proved from fmt's source: count such statements apart). THE CARD IS WHAT COUNTS. Prove the row's statement (the work); the ties are given (YtdlkkflenphkfaaDoorTie.lean); close each card by the builder's one call (the guide's Derived/Test/ToyasCard.lean, 'card_holds'). Laid BY PROGRAM, IN A SANDBOX (cutbox-door.mjs). By AI agents, Wed Nov 11 2026. No macro, syntax, notation, axiom, sorry.
-/
import Derived.Test.YtdlkkflenphkfaaDoorRows
import GoSem.ClaimSeven
namespace Go.Proofs.YtdlkkflenphkfaaDoor
namespace Rows

/-- THE TIED CARD OF 'graduslaw01.WordBins'. -/
def wordBinsCard : Claim7 := { stood := { row := wordBinsRow, standIns := [], harness := (true, "119ba0d1d09144862f28fc60d354e093ad888a4997c64e91c236dcd76e08d636"), looks := false }, kinds := [], alts := [], laidByText := true, laidKinds := [.data, .data, .data], laidTests := true, laidLooks := .later }
def WordBinsCardSaid : Prop := Claim7.holds Tryd.pinned (.plain (OpenSpec.ofChange wordBinsSpec)) wordBinsCard

/-- THE TIED CARD OF 'graduslaw01.WordDivides'. -/
def wordDividesCard : Claim7 := { stood := { row := wordDividesRow, standIns := [], harness := (true, "119ba0d1d09144862f28fc60d354e093ad888a4997c64e91c236dcd76e08d636"), looks := false }, kinds := [], alts := [], laidByText := true, laidKinds := [.data, .data, .data], laidTests := true, laidLooks := .later }
def WordDividesCardSaid : Prop := Claim7.holds Tryd.pinned (.plain (OpenSpec.ofChange wordDividesSpec)) wordDividesCard

/-- THE TIED CARD OF 'graduslaw01.WordShows'. -/
def wordShowsCard : Claim7 := { stood := { row := wordShowsRow, standIns := [], harness := (true, "119ba0d1d09144862f28fc60d354e093ad888a4997c64e91c236dcd76e08d636"), looks := false }, kinds := [], alts := [], laidByText := true, laidKinds := [.data, .data, .data], laidTests := true, laidLooks := .later }
def WordShowsCardSaid : Prop := Claim7.holds Tryd.pinned (.plain (OpenSpec.ofChange wordShowsSpec)) wordShowsCard

/-- THE TIED CARD OF 'graduslaw01.WordReads'. -/
def wordReadsCard : Claim7 := { stood := { row := wordReadsRow, standIns := [], harness := (true, "119ba0d1d09144862f28fc60d354e093ad888a4997c64e91c236dcd76e08d636"), looks := false }, kinds := [], alts := [], laidByText := true, laidKinds := [.data, .data, .data], laidTests := true, laidLooks := .later }
def WordReadsCardSaid : Prop := Claim7.holds Tryd.pinned (.plain (OpenSpec.ofChange wordReadsSpec)) wordReadsCard

/-- THE TIED CARD OF 'graduslaw01.WordFits'. -/
def wordFitsCard : Claim7 := { stood := { row := wordFitsRow, standIns := [], harness := (true, "119ba0d1d09144862f28fc60d354e093ad888a4997c64e91c236dcd76e08d636"), looks := false }, kinds := [], alts := [], laidByText := true, laidKinds := [.data, .data, .data], laidTests := true, laidLooks := .later }
def WordFitsCardSaid : Prop := Claim7.holds Tryd.pinned (.plain (OpenSpec.ofChange wordFitsSpec)) wordFitsCard

/-- THE TIED CARD OF 'graduslaw01.WordPuts'. -/
def wordPutsCard : Claim7 := { stood := { row := wordPutsRow, standIns := [], harness := (true, "119ba0d1d09144862f28fc60d354e093ad888a4997c64e91c236dcd76e08d636"), looks := false }, kinds := [], alts := [], laidByText := true, laidKinds := [.data, .data, .data], laidTests := true, laidLooks := .later }
def WordPutsCardSaid : Prop := Claim7.holds Tryd.pinned (.plain (OpenSpec.ofChange wordPutsSpec)) wordPutsCard

/-- THE SECOND FORM's CARD OF 'graduslaw01.WordBins'. -/
def wordBinsUptoCard : Claim7 := { stood := { row := wordBinsUptoRow, standIns := [], harness := (true, "119ba0d1d09144862f28fc60d354e093ad888a4997c64e91c236dcd76e08d636"), looks := false }, kinds := [], alts := [], laidByText := true, laidKinds := [.data, .data, .data], laidTests := true, laidLooks := .later }
def WordBinsUptoCardSaid : Prop := Claim7.holds Tryd.pinned (.plain (OpenSpec.upto wordBinsSpec)) wordBinsUptoCard

/-- THE SECOND FORM's CARD OF 'graduslaw01.WordDivides'. -/
def wordDividesUptoCard : Claim7 := { stood := { row := wordDividesUptoRow, standIns := [], harness := (true, "119ba0d1d09144862f28fc60d354e093ad888a4997c64e91c236dcd76e08d636"), looks := false }, kinds := [], alts := [], laidByText := true, laidKinds := [.data, .data, .data], laidTests := true, laidLooks := .later }
def WordDividesUptoCardSaid : Prop := Claim7.holds Tryd.pinned (.plain (OpenSpec.upto wordDividesSpec)) wordDividesUptoCard

/-- THE SECOND FORM's CARD OF 'graduslaw01.WordShows'. -/
def wordShowsUptoCard : Claim7 := { stood := { row := wordShowsUptoRow, standIns := [], harness := (true, "119ba0d1d09144862f28fc60d354e093ad888a4997c64e91c236dcd76e08d636"), looks := false }, kinds := [], alts := [], laidByText := true, laidKinds := [.data, .data, .data], laidTests := true, laidLooks := .later }
def WordShowsUptoCardSaid : Prop := Claim7.holds Tryd.pinned (.plain (OpenSpec.upto wordShowsSpec)) wordShowsUptoCard

/-- THE SECOND FORM's CARD OF 'graduslaw01.WordReads'. -/
def wordReadsUptoCard : Claim7 := { stood := { row := wordReadsUptoRow, standIns := [], harness := (true, "119ba0d1d09144862f28fc60d354e093ad888a4997c64e91c236dcd76e08d636"), looks := false }, kinds := [], alts := [], laidByText := true, laidKinds := [.data, .data, .data], laidTests := true, laidLooks := .later }
def WordReadsUptoCardSaid : Prop := Claim7.holds Tryd.pinned (.plain (OpenSpec.upto wordReadsSpec)) wordReadsUptoCard

/-- THE SECOND FORM's CARD OF 'graduslaw01.WordFits'. -/
def wordFitsUptoCard : Claim7 := { stood := { row := wordFitsUptoRow, standIns := [], harness := (true, "119ba0d1d09144862f28fc60d354e093ad888a4997c64e91c236dcd76e08d636"), looks := false }, kinds := [], alts := [], laidByText := true, laidKinds := [.data, .data, .data], laidTests := true, laidLooks := .later }
def WordFitsUptoCardSaid : Prop := Claim7.holds Tryd.pinned (.plain (OpenSpec.upto wordFitsSpec)) wordFitsUptoCard

/-- THE SECOND FORM's CARD OF 'graduslaw01.WordPuts'. -/
def wordPutsUptoCard : Claim7 := { stood := { row := wordPutsUptoRow, standIns := [], harness := (true, "119ba0d1d09144862f28fc60d354e093ad888a4997c64e91c236dcd76e08d636"), looks := false }, kinds := [], alts := [], laidByText := true, laidKinds := [.data, .data, .data], laidTests := true, laidLooks := .later }
def WordPutsUptoCardSaid : Prop := Claim7.holds Tryd.pinned (.plain (OpenSpec.upto wordPutsSpec)) wordPutsUptoCard
end Rows
end Go.Proofs.YtdlkkflenphkfaaDoor
