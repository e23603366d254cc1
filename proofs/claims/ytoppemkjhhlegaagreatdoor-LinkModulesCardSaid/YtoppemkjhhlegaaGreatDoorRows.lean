/-
  NARROWER THAN 'FOR EVERY INPUT', by the rows' own cells (each row's printed sentence says how): LinkModules: laid.
  DERIVED. THE GIVEN ROWS OF THIS SEAT. 1 by the template 'for every input the law returns true; each argument reads behind the call as it read before'; 0 by the template 'total and deterministic' (their statements: YtoppemkjhhlegaaGreatDoorTotals.lean).
  GIVEN WITH THE SEED: the statements are not yours to turn. If you find one false, say at which input.
  Laid BY PROGRAM, IN A SANDBOX (cutbox-rows.mjs): the forced cells as the released guide's own fill.sh prints them over the translation 596c0fdf85fb3fac… (all of the seat's roots in one cut). By AI agents, Wed Nov 11 2026. No macro, syntax, notation, axiom, sorry.
-/
import Derived.Test.YtoppemkjhhlegaaGreatDoorChecked
import GoSem.Claim
import GoSem.ClaimJoined
import GoSem.ClaimMapViews
import Derived.JoinedTies
import Derived.KernelRfl
namespace Go.Proofs.YtoppemkjhhlegaaGreatDoor
/- THE CELL 'sum', in the pinned program and in every row, IS THE sha256 OF THE DUMP (.gsa) THAT YtoppemkjhhlegaaGreatDoorProg.lean LOADS. Nothing in Lean hashes anything: it is a label: what it is worth is what the hold of that sum in a sandbox is worth. -/
noncomputable def Tryz.pinned : Pinned := { name := "ytoppemkjhhlegaagreatdoor", sum := "596c0fdf85fb3facc3becc9a2f3994118f22167a1542a590c83bde5f6a600382", checked := Tryz.checked }
namespace Rows
def none {H : Type} : Left H := { results := [], args := [] }

/- WHAT THE LISTED PACKAGE-LEVEL VARIABLES READ AS WHEN THE CALL BEGINS. Each datum BY PROGRAM (the guide's laid-datum.mjs) off the statement by which the dump's own 'gosem.cut.vars' lays the variable. In a bare row this is a premise. The card (YtoppemkjhhlegaaGreatDoorCards.lean) ties it to the program's text. -/
def laid_gradus_lex_ownWords {H : Type} : DataW H := .agg [.lit (.string [97, 110, 100]), .lit (.string [97, 110, 121]), .lit (.string [97, 115]), .lit (.string [98, 111, 111, 108]), .lit (.string [101, 108, 115, 101]), .lit (.string [101, 120, 112, 111, 114, 116]), .lit (.string [102, 97, 108, 115, 101]), .lit (.string [102, 110]), .lit (.string [102, 117, 110, 99, 116, 105, 111, 110]), .lit (.string [105, 102]), .lit (.string [105, 109, 112, 111, 114, 116]), .lit (.string [105, 110]), .lit (.string [105, 110, 116]), .lit (.string [105, 115]), .lit (.string [108, 101, 116]), .lit (.string [110, 111, 116]), .lit (.string [110, 117, 108, 108]), .lit (.string [111, 114]), .lit (.string [112, 114, 105, 110, 116]), .lit (.string [114, 101, 97, 100]), .lit (.string [114, 101, 99, 111, 114, 100]), .lit (.string [115, 116, 114]), .lit (.string [116, 104, 101, 110]), .lit (.string [116, 114, 117, 101]), .lit (.string [119, 105, 116, 104])]

/-- 'graduslaw07.LinkModules': WHATEVER THE INPUT: true; the input reads as it did. -/
def linkModulesSpec : ChangeSpec := { name := "linkModules", fn := fun _ => fun
  | [d] => { results := [.lit (.bool true)], args := [d] }
  | _ => none }
def linkModulesRow : OpenClaim := { program := "ytoppemkjhhlegaagreatdoor", sum := "596c0fdf85fb3facc3becc9a2f3994118f22167a1542a590c83bde5f6a600382", func := "gradus/graduslaw07.LinkModules", spec := "linkModules", inPlace := ["internal/bytealg.IndexByteString"], unfollowed := true, recurses := true, named := ["gradus/lex.ownWords"], plainKeys := false, apart := false, laid := [("gradus/lex.ownWords", laid_gradus_lex_ownWords)] }
def LinkModulesSaid : Prop := linkModulesRow.holds Tryz.pinned (OpenSpec.ofChange linkModulesSpec)

/-- ITS FALSE NEIGHBOUR: 'it returns false'. Refute it at one input. -/
def linkModulesWrong : ChangeSpec := { name := "linkModules", fn := fun _ => fun
  | [d] => { results := [.lit (.bool false)], args := [d] }
  | _ => none }
def LinkModulesWrongFalsely : Prop := linkModulesRow.holds Tryz.pinned (OpenSpec.ofChange linkModulesWrong)

/- THE SECOND FORM. 'bulk': how many values and letters a reading holds, each counted each time it is reached (what is shared counts as often as it is met; a slice's spare places count too). A statement '..UptoSaid' is the law's where the arguments, and the package variables that the reading takes, are together of bulk at most 1048576: NARROWER than '..Said'. Prove '..Said' where nothing that the law and all that it calls make is longer than what came in: it says more and counts as full. Else prove '..UptoSaid'. A law counts once. -/
mutual
def uptoBulk {H : Type} : DataW H → Nat
  | .lit (.string bytes) => bytes.length + 1
  | .lit _ => 1
  | .nil => 1
  | .ptr d => uptoBulk d + 1
  | .slice elems spare => uptoBulkAll elems + uptoBulkAll spare + 1
  | .agg parts => uptoBulkAll parts + 1
  | .iface _ d => uptoBulk d + 1
  | .map entries => uptoBulkEntries entries + 1
  | .held _ => 1
def uptoBulkAll {H : Type} : List (DataW H) → Nat
  | [] => 0
  | d :: r => uptoBulk d + uptoBulkAll r
def uptoBulkEntries {H : Type} : List (Lit × DataW H) → Nat
  | [] => 0
  | x :: r => uptoBulkEntry x + uptoBulkEntries r
def uptoBulkEntry {H : Type} : Lit × DataW H → Nat
  | (.string bytes, d) => bytes.length + uptoBulk d + 1
  | (_, d) => uptoBulk d + 1
 end
def uptoSmall : (H : Type) → List (DataW H) → Bool := fun _ ds => decide (uptoBulkAll ds ≤ 1048576)
def OpenSpec.upto (s : _root_.Go.ChangeSpec) : _root_.Go.OpenSpec := { _root_.Go.OpenSpec.ofChange s with cond := some uptoSmall }

/-- 'graduslaw07.LinkModules', WHERE WHAT IT READS IS OF BULK AT MOST 1048576: true; the input reads as it did. -/
def linkModulesUptoRow : OpenClaim := { program := "ytoppemkjhhlegaagreatdoor", sum := "596c0fdf85fb3facc3becc9a2f3994118f22167a1542a590c83bde5f6a600382", func := "gradus/graduslaw07.LinkModules", spec := "linkModules", inPlace := ["internal/bytealg.IndexByteString"], unfollowed := true, recurses := true, named := ["gradus/lex.ownWords"], plainKeys := false, apart := false, laid := [("gradus/lex.ownWords", laid_gradus_lex_ownWords)], narrowed := true }
def LinkModulesUptoSaid : Prop := linkModulesUptoRow.holds Tryz.pinned (OpenSpec.upto linkModulesSpec)

end Rows
end Go.Proofs.YtoppemkjhhlegaaGreatDoor
