/-
  NARROWER THAN 'FOR EVERY INPUT', by the rows' own cells (each row's printed sentence says how): TypesNorm: loops, laid · TypesMeasure: loops, laid · TypesSame: loops, laid · TypesShow: loops, laid · TypesTags: loops, laid · TypesUnions: loops, laid.
  DERIVED. THE GIVEN ROWS OF THIS SEAT. 6 by the template 'for every input the law returns true; each argument reads behind the call as it read before'; 0 by the template 'total and deterministic' (their statements: YtgjpmiebokhnoaaDoorTotals.lean).
  GIVEN WITH THE SEED: the statements are not yours to turn. If you find one false, say at which input.
  Laid BY PROGRAM, IN A SANDBOX (cutbox-rows.mjs): the forced cells as the released guide's own fill.sh prints them over the translation cb5c276fb588758c… (all of the seat's roots in one cut). By AI agents, Wed Nov 11 2026. No macro, syntax, notation, axiom, sorry.
-/
import Derived.Test.YtgjpmiebokhnoaaDoorChecked
import GoSem.Claim
import GoSem.ClaimJoined
import GoSem.ClaimMapViews
import Derived.JoinedTies
import Derived.KernelRfl
namespace Go.Proofs.YtgjpmiebokhnoaaDoor
/- THE CELL 'sum', in the pinned program and in every row, IS THE sha256 OF THE DUMP (.gsa) THAT YtgjpmiebokhnoaaDoorProg.lean LOADS. Nothing in Lean hashes anything: it is a label: what it is worth is what the hold of that sum in a sandbox is worth. -/
noncomputable def Tryd.pinned : Pinned := { name := "ytgjpmiebokhnoaadoor", sum := "cb5c276fb588758cd2241b6dff5842c61db1c8202ae4dac6e281cdfe84dfe4d4", checked := Tryd.checked }
namespace Rows
def none {H : Type} : Left H := { results := [], args := [] }

/- WHAT THE LISTED PACKAGE-LEVEL VARIABLES READ AS WHEN THE CALL BEGINS. Each datum BY PROGRAM (the guide's laid-datum.mjs) off the statement by which the dump's own 'gosem.cut.vars' lays the variable. In a bare row this is a premise. The card (YtgjpmiebokhnoaaDoorCards.lean) ties it to the program's text. -/
def laid_gradus_lex_ownWords {H : Type} : DataW H := .agg [.lit (.string [97, 110, 100]), .lit (.string [97, 110, 121]), .lit (.string [97, 115]), .lit (.string [98, 111, 111, 108]), .lit (.string [101, 108, 115, 101]), .lit (.string [101, 120, 112, 111, 114, 116]), .lit (.string [102, 97, 108, 115, 101]), .lit (.string [102, 110]), .lit (.string [102, 117, 110, 99, 116, 105, 111, 110]), .lit (.string [105, 102]), .lit (.string [105, 109, 112, 111, 114, 116]), .lit (.string [105, 110]), .lit (.string [105, 110, 116]), .lit (.string [105, 115]), .lit (.string [108, 101, 116]), .lit (.string [110, 111, 116]), .lit (.string [110, 117, 108, 108]), .lit (.string [111, 114]), .lit (.string [112, 114, 105, 110, 116]), .lit (.string [114, 101, 97, 100]), .lit (.string [114, 101, 99, 111, 114, 100]), .lit (.string [115, 116, 114]), .lit (.string [116, 104, 101, 110]), .lit (.string [116, 114, 117, 101]), .lit (.string [119, 105, 116, 104])]
def laid_gradus_types_plainNames {H : Type} : DataW H := .agg [.lit (.string [97, 110, 121]), .lit (.string [110, 117, 108, 108]), .lit (.string [98, 111, 111, 108]), .lit (.string [105, 110, 116]), .lit (.string [115, 116, 114])]

/-- 'graduslaw03.TypesNorm': WHATEVER THE INPUT: true; the input reads as it did. -/
def typesNormSpec : ChangeSpec := { name := "typesNorm", fn := fun _ => fun
  | [d] => { results := [.lit (.bool true)], args := [d] }
  | _ => none }
def typesNormRow : OpenClaim := { program := "ytgjpmiebokhnoaadoor", sum := "cb5c276fb588758cd2241b6dff5842c61db1c8202ae4dac6e281cdfe84dfe4d4", func := "gradus/graduslaw03.TypesNorm", spec := "typesNorm", inPlace := ["internal/bytealg.abigen_runtime_cmpstring", "internal/abi.NoEscape", "internal/bytealg.MakeNoZero"], unfollowed := true, recurses := true, named := ["gradus/lex.ownWords", "gradus/types.plainNames"], loops := true, plainKeys := false, apart := false, laid := [("gradus/lex.ownWords", laid_gradus_lex_ownWords), ("gradus/types.plainNames", laid_gradus_types_plainNames)] }
def TypesNormSaid : Prop := typesNormRow.holds Tryd.pinned (OpenSpec.ofChange typesNormSpec)

/-- ITS FALSE NEIGHBOUR: 'it returns false'. Refute it at one input. -/
def typesNormWrong : ChangeSpec := { name := "typesNorm", fn := fun _ => fun
  | [d] => { results := [.lit (.bool false)], args := [d] }
  | _ => none }
def TypesNormWrongFalsely : Prop := typesNormRow.holds Tryd.pinned (OpenSpec.ofChange typesNormWrong)

/-- 'graduslaw03.TypesMeasure': WHATEVER THE INPUT: true; the input reads as it did. -/
def typesMeasureSpec : ChangeSpec := { name := "typesMeasure", fn := fun _ => fun
  | [d] => { results := [.lit (.bool true)], args := [d] }
  | _ => none }
def typesMeasureRow : OpenClaim := { program := "ytgjpmiebokhnoaadoor", sum := "cb5c276fb588758cd2241b6dff5842c61db1c8202ae4dac6e281cdfe84dfe4d4", func := "gradus/graduslaw03.TypesMeasure", spec := "typesMeasure", inPlace := ["internal/bytealg.abigen_runtime_cmpstring", "internal/abi.NoEscape", "internal/bytealg.MakeNoZero"], unfollowed := true, recurses := true, named := ["gradus/lex.ownWords", "gradus/types.plainNames"], loops := true, plainKeys := false, apart := false, laid := [("gradus/lex.ownWords", laid_gradus_lex_ownWords), ("gradus/types.plainNames", laid_gradus_types_plainNames)] }
def TypesMeasureSaid : Prop := typesMeasureRow.holds Tryd.pinned (OpenSpec.ofChange typesMeasureSpec)

/-- ITS FALSE NEIGHBOUR: 'it returns false'. Refute it at one input. -/
def typesMeasureWrong : ChangeSpec := { name := "typesMeasure", fn := fun _ => fun
  | [d] => { results := [.lit (.bool false)], args := [d] }
  | _ => none }
def TypesMeasureWrongFalsely : Prop := typesMeasureRow.holds Tryd.pinned (OpenSpec.ofChange typesMeasureWrong)

/-- 'graduslaw03.TypesSame': WHATEVER THE INPUT: true; the input reads as it did. -/
def typesSameSpec : ChangeSpec := { name := "typesSame", fn := fun _ => fun
  | [d1, d2] => { results := [.lit (.bool true)], args := [d1, d2] }
  | _ => none }
def typesSameRow : OpenClaim := { program := "ytgjpmiebokhnoaadoor", sum := "cb5c276fb588758cd2241b6dff5842c61db1c8202ae4dac6e281cdfe84dfe4d4", func := "gradus/graduslaw03.TypesSame", spec := "typesSame", inPlace := ["internal/bytealg.abigen_runtime_cmpstring", "internal/abi.NoEscape", "internal/bytealg.MakeNoZero"], unfollowed := true, recurses := true, named := ["gradus/lex.ownWords", "gradus/types.plainNames"], loops := true, plainKeys := false, apart := false, laid := [("gradus/lex.ownWords", laid_gradus_lex_ownWords), ("gradus/types.plainNames", laid_gradus_types_plainNames)] }
def TypesSameSaid : Prop := typesSameRow.holds Tryd.pinned (OpenSpec.ofChange typesSameSpec)

/-- ITS FALSE NEIGHBOUR: 'it returns false'. Refute it at one input. -/
def typesSameWrong : ChangeSpec := { name := "typesSame", fn := fun _ => fun
  | [d1, d2] => { results := [.lit (.bool false)], args := [d1, d2] }
  | _ => none }
def TypesSameWrongFalsely : Prop := typesSameRow.holds Tryd.pinned (OpenSpec.ofChange typesSameWrong)

/-- 'graduslaw03.TypesShow': WHATEVER THE INPUT: true; the input reads as it did. -/
def typesShowSpec : ChangeSpec := { name := "typesShow", fn := fun _ => fun
  | [d1, d2] => { results := [.lit (.bool true)], args := [d1, d2] }
  | _ => none }
def typesShowRow : OpenClaim := { program := "ytgjpmiebokhnoaadoor", sum := "cb5c276fb588758cd2241b6dff5842c61db1c8202ae4dac6e281cdfe84dfe4d4", func := "gradus/graduslaw03.TypesShow", spec := "typesShow", inPlace := ["internal/bytealg.abigen_runtime_cmpstring", "internal/abi.NoEscape", "internal/bytealg.MakeNoZero"], unfollowed := true, recurses := true, named := ["gradus/lex.ownWords", "gradus/types.plainNames"], loops := true, plainKeys := false, apart := false, laid := [("gradus/lex.ownWords", laid_gradus_lex_ownWords), ("gradus/types.plainNames", laid_gradus_types_plainNames)] }
def TypesShowSaid : Prop := typesShowRow.holds Tryd.pinned (OpenSpec.ofChange typesShowSpec)

/-- ITS FALSE NEIGHBOUR: 'it returns false'. Refute it at one input. -/
def typesShowWrong : ChangeSpec := { name := "typesShow", fn := fun _ => fun
  | [d1, d2] => { results := [.lit (.bool false)], args := [d1, d2] }
  | _ => none }
def TypesShowWrongFalsely : Prop := typesShowRow.holds Tryd.pinned (OpenSpec.ofChange typesShowWrong)

/-- 'graduslaw03.TypesTags': WHATEVER THE INPUT: true; the input reads as it did. -/
def typesTagsSpec : ChangeSpec := { name := "typesTags", fn := fun _ => fun
  | [d1, d2] => { results := [.lit (.bool true)], args := [d1, d2] }
  | _ => none }
def typesTagsRow : OpenClaim := { program := "ytgjpmiebokhnoaadoor", sum := "cb5c276fb588758cd2241b6dff5842c61db1c8202ae4dac6e281cdfe84dfe4d4", func := "gradus/graduslaw03.TypesTags", spec := "typesTags", inPlace := ["internal/bytealg.abigen_runtime_cmpstring", "internal/abi.NoEscape", "internal/bytealg.MakeNoZero"], unfollowed := true, recurses := true, named := ["gradus/lex.ownWords", "gradus/types.plainNames"], loops := true, plainKeys := false, apart := false, laid := [("gradus/lex.ownWords", laid_gradus_lex_ownWords), ("gradus/types.plainNames", laid_gradus_types_plainNames)] }
def TypesTagsSaid : Prop := typesTagsRow.holds Tryd.pinned (OpenSpec.ofChange typesTagsSpec)

/-- ITS FALSE NEIGHBOUR: 'it returns false'. Refute it at one input. -/
def typesTagsWrong : ChangeSpec := { name := "typesTags", fn := fun _ => fun
  | [d1, d2] => { results := [.lit (.bool false)], args := [d1, d2] }
  | _ => none }
def TypesTagsWrongFalsely : Prop := typesTagsRow.holds Tryd.pinned (OpenSpec.ofChange typesTagsWrong)

/-- 'graduslaw03.TypesUnions': WHATEVER THE INPUT: true; the input reads as it did. -/
def typesUnionsSpec : ChangeSpec := { name := "typesUnions", fn := fun _ => fun
  | [d1, d2] => { results := [.lit (.bool true)], args := [d1, d2] }
  | _ => none }
def typesUnionsRow : OpenClaim := { program := "ytgjpmiebokhnoaadoor", sum := "cb5c276fb588758cd2241b6dff5842c61db1c8202ae4dac6e281cdfe84dfe4d4", func := "gradus/graduslaw03.TypesUnions", spec := "typesUnions", inPlace := ["internal/bytealg.abigen_runtime_cmpstring", "internal/abi.NoEscape", "internal/bytealg.MakeNoZero"], unfollowed := true, recurses := true, named := ["gradus/lex.ownWords", "gradus/types.plainNames"], loops := true, plainKeys := false, apart := false, laid := [("gradus/lex.ownWords", laid_gradus_lex_ownWords), ("gradus/types.plainNames", laid_gradus_types_plainNames)] }
def TypesUnionsSaid : Prop := typesUnionsRow.holds Tryd.pinned (OpenSpec.ofChange typesUnionsSpec)

/-- ITS FALSE NEIGHBOUR: 'it returns false'. Refute it at one input. -/
def typesUnionsWrong : ChangeSpec := { name := "typesUnions", fn := fun _ => fun
  | [d1, d2] => { results := [.lit (.bool false)], args := [d1, d2] }
  | _ => none }
def TypesUnionsWrongFalsely : Prop := typesUnionsRow.holds Tryd.pinned (OpenSpec.ofChange typesUnionsWrong)

/- THE SECOND FORM. 'bulk': how many values and letters a reading holds, each counted each time it is reached (what is shared counts as often as it is met; a slice's spare places count too). A statement '..UptoSaid' is the law's where the arguments, and the package variables that the reading takes, are together of bulk at most 1048576: NARROWER than '..Said'. Prove '..Said' where nothing that the law and all that it calls make is longer than what came in: it says more and counts as full. Else prove '..UptoSaid'. A law counts once. -/
mutual
def uptoBulk {H : Type} : DataW H → Nat
  | .lit (.string bytes) => bytes.length + 1
  | .lit _ => 1
  | .nil => 1
  | .ptr d => uptoBulk d + 1
  | .slice elems spare => uptoBulkAll elems + uptoBulkAll spare + 1
  | .agg parts => uptoBulkAll parts + 1
  | .iface _ d => uptoBulk d + 1
  | .map entries => uptoBulkEntries entries + 1
  | .held _ => 1
def uptoBulkAll {H : Type} : List (DataW H) → Nat
  | [] => 0
  | d :: r => uptoBulk d + uptoBulkAll r
def uptoBulkEntries {H : Type} : List (Lit × DataW H) → Nat
  | [] => 0
  | x :: r => uptoBulkEntry x + uptoBulkEntries r
def uptoBulkEntry {H : Type} : Lit × DataW H → Nat
  | (.string bytes, d) => bytes.length + uptoBulk d + 1
  | (_, d) => uptoBulk d + 1
 end
def uptoSmall : (H : Type) → List (DataW H) → Bool := fun _ ds => decide (uptoBulkAll ds ≤ 1048576)
def OpenSpec.upto (s : _root_.Go.ChangeSpec) : _root_.Go.OpenSpec := { _root_.Go.OpenSpec.ofChange s with cond := some uptoSmall }

/-- 'graduslaw03.TypesNorm', WHERE WHAT IT READS IS OF BULK AT MOST 1048576: true; the input reads as it did. -/
def typesNormUptoRow : OpenClaim := { program := "ytgjpmiebokhnoaadoor", sum := "cb5c276fb588758cd2241b6dff5842c61db1c8202ae4dac6e281cdfe84dfe4d4", func := "gradus/graduslaw03.TypesNorm", spec := "typesNorm", inPlace := ["internal/bytealg.abigen_runtime_cmpstring", "internal/abi.NoEscape", "internal/bytealg.MakeNoZero"], unfollowed := true, recurses := true, named := ["gradus/lex.ownWords", "gradus/types.plainNames"], loops := true, plainKeys := false, apart := false, laid := [("gradus/lex.ownWords", laid_gradus_lex_ownWords), ("gradus/types.plainNames", laid_gradus_types_plainNames)], narrowed := true }
def TypesNormUptoSaid : Prop := typesNormUptoRow.holds Tryd.pinned (OpenSpec.upto typesNormSpec)

/-- 'graduslaw03.TypesMeasure', WHERE WHAT IT READS IS OF BULK AT MOST 1048576: true; the input reads as it did. -/
def typesMeasureUptoRow : OpenClaim := { program := "ytgjpmiebokhnoaadoor", sum := "cb5c276fb588758cd2241b6dff5842c61db1c8202ae4dac6e281cdfe84dfe4d4", func := "gradus/graduslaw03.TypesMeasure", spec := "typesMeasure", inPlace := ["internal/bytealg.abigen_runtime_cmpstring", "internal/abi.NoEscape", "internal/bytealg.MakeNoZero"], unfollowed := true, recurses := true, named := ["gradus/lex.ownWords", "gradus/types.plainNames"], loops := true, plainKeys := false, apart := false, laid := [("gradus/lex.ownWords", laid_gradus_lex_ownWords), ("gradus/types.plainNames", laid_gradus_types_plainNames)], narrowed := true }
def TypesMeasureUptoSaid : Prop := typesMeasureUptoRow.holds Tryd.pinned (OpenSpec.upto typesMeasureSpec)

/-- 'graduslaw03.TypesSame', WHERE WHAT IT READS IS OF BULK AT MOST 1048576: true; the input reads as it did. -/
def typesSameUptoRow : OpenClaim := { program := "ytgjpmiebokhnoaadoor", sum := "cb5c276fb588758cd2241b6dff5842c61db1c8202ae4dac6e281cdfe84dfe4d4", func := "gradus/graduslaw03.TypesSame", spec := "typesSame", inPlace := ["internal/bytealg.abigen_runtime_cmpstring", "internal/abi.NoEscape", "internal/bytealg.MakeNoZero"], unfollowed := true, recurses := true, named := ["gradus/lex.ownWords", "gradus/types.plainNames"], loops := true, plainKeys := false, apart := false, laid := [("gradus/lex.ownWords", laid_gradus_lex_ownWords), ("gradus/types.plainNames", laid_gradus_types_plainNames)], narrowed := true }
def TypesSameUptoSaid : Prop := typesSameUptoRow.holds Tryd.pinned (OpenSpec.upto typesSameSpec)

/-- 'graduslaw03.TypesShow', WHERE WHAT IT READS IS OF BULK AT MOST 1048576: true; the input reads as it did. -/
def typesShowUptoRow : OpenClaim := { program := "ytgjpmiebokhnoaadoor", sum := "cb5c276fb588758cd2241b6dff5842c61db1c8202ae4dac6e281cdfe84dfe4d4", func := "gradus/graduslaw03.TypesShow", spec := "typesShow", inPlace := ["internal/bytealg.abigen_runtime_cmpstring", "internal/abi.NoEscape", "internal/bytealg.MakeNoZero"], unfollowed := true, recurses := true, named := ["gradus/lex.ownWords", "gradus/types.plainNames"], loops := true, plainKeys := false, apart := false, laid := [("gradus/lex.ownWords", laid_gradus_lex_ownWords), ("gradus/types.plainNames", laid_gradus_types_plainNames)], narrowed := true }
def TypesShowUptoSaid : Prop := typesShowUptoRow.holds Tryd.pinned (OpenSpec.upto typesShowSpec)

/-- 'graduslaw03.TypesTags', WHERE WHAT IT READS IS OF BULK AT MOST 1048576: true; the input reads as it did. -/
def typesTagsUptoRow : OpenClaim := { program := "ytgjpmiebokhnoaadoor", sum := "cb5c276fb588758cd2241b6dff5842c61db1c8202ae4dac6e281cdfe84dfe4d4", func := "gradus/graduslaw03.TypesTags", spec := "typesTags", inPlace := ["internal/bytealg.abigen_runtime_cmpstring", "internal/abi.NoEscape", "internal/bytealg.MakeNoZero"], unfollowed := true, recurses := true, named := ["gradus/lex.ownWords", "gradus/types.plainNames"], loops := true, plainKeys := false, apart := false, laid := [("gradus/lex.ownWords", laid_gradus_lex_ownWords), ("gradus/types.plainNames", laid_gradus_types_plainNames)], narrowed := true }
def TypesTagsUptoSaid : Prop := typesTagsUptoRow.holds Tryd.pinned (OpenSpec.upto typesTagsSpec)

/-- 'graduslaw03.TypesUnions', WHERE WHAT IT READS IS OF BULK AT MOST 1048576: true; the input reads as it did. -/
def typesUnionsUptoRow : OpenClaim := { program := "ytgjpmiebokhnoaadoor", sum := "cb5c276fb588758cd2241b6dff5842c61db1c8202ae4dac6e281cdfe84dfe4d4", func := "gradus/graduslaw03.TypesUnions", spec := "typesUnions", inPlace := ["internal/bytealg.abigen_runtime_cmpstring", "internal/abi.NoEscape", "internal/bytealg.MakeNoZero"], unfollowed := true, recurses := true, named := ["gradus/lex.ownWords", "gradus/types.plainNames"], loops := true, plainKeys := false, apart := false, laid := [("gradus/lex.ownWords", laid_gradus_lex_ownWords), ("gradus/types.plainNames", laid_gradus_types_plainNames)], narrowed := true }
def TypesUnionsUptoSaid : Prop := typesUnionsUptoRow.holds Tryd.pinned (OpenSpec.upto typesUnionsSpec)

end Rows
end Go.Proofs.YtgjpmiebokhnoaaDoor
