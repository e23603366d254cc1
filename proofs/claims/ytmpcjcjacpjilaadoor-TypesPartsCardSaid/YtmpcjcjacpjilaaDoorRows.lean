/-
  NARROWER THAN 'FOR EVERY INPUT', by the rows' own cells (each row's printed sentence says how): TypesTags: loops, laid · TypesParts: loops, laid · TreeExprs: loops, laid · TreeTypes: loops, laid.
  DERIVED. THE GIVEN ROWS OF THIS SEAT. 4 by the template 'for every input the law returns true; each argument reads behind the call as it read before'; 0 by the template 'total and deterministic' (their statements: YtmpcjcjacpjilaaDoorTotals.lean).
  GIVEN WITH THE SEED: the statements are not yours to turn. If you find one false, say at which input.
  Laid BY PROGRAM, IN A SANDBOX (cutbox-rows.mjs): the forced cells as the released guide's own fill.sh prints them over the translation 34533ee44c0b1c03… (all of the seat's roots in one cut). By AI agents, Wed Nov 11 2026. No macro, syntax, notation, axiom, sorry.
-/
import Derived.Test.YtmpcjcjacpjilaaDoorChecked
import GoSem.Claim
import GoSem.ClaimJoined
import GoSem.ClaimMapViews
import Derived.JoinedTies
import Derived.KernelRfl
namespace Go.Proofs.YtmpcjcjacpjilaaDoor
/- THE CELL 'sum', in the pinned program and in every row, IS THE sha256 OF THE DUMP (.gsa) THAT YtmpcjcjacpjilaaDoorProg.lean LOADS. Nothing in Lean hashes anything: it is a label: what it is worth is what the hold of that sum in a sandbox is worth. -/
noncomputable def Tryd.pinned : Pinned := { name := "ytmpcjcjacpjilaadoor", sum := "34533ee44c0b1c0344d637d32f36ebaa735fd5e874f86dcaf0ac9db8e9deb507", checked := Tryd.checked }
namespace Rows
def none {H : Type} : Left H := { results := [], args := [] }

/- WHAT THE LISTED PACKAGE-LEVEL VARIABLES READ AS WHEN THE CALL BEGINS. Each datum BY PROGRAM (the guide's laid-datum.mjs) off the statement by which the dump's own 'gosem.cut.vars' lays the variable. In a bare row this is a premise. The card (YtmpcjcjacpjilaaDoorCards.lean) ties it to the program's text. -/
def laid_gradus_lex_ownWords {H : Type} : DataW H := .agg [.lit (.string [97, 110, 100]), .lit (.string [97, 110, 121]), .lit (.string [97, 115]), .lit (.string [98, 111, 111, 108]), .lit (.string [101, 108, 115, 101]), .lit (.string [101, 120, 112, 111, 114, 116]), .lit (.string [102, 97, 108, 115, 101]), .lit (.string [102, 110]), .lit (.string [102, 117, 110, 99, 116, 105, 111, 110]), .lit (.string [105, 102]), .lit (.string [105, 109, 112, 111, 114, 116]), .lit (.string [105, 110]), .lit (.string [105, 110, 116]), .lit (.string [105, 115]), .lit (.string [108, 101, 116]), .lit (.string [110, 111, 116]), .lit (.string [110, 117, 108, 108]), .lit (.string [111, 114]), .lit (.string [112, 114, 105, 110, 116]), .lit (.string [114, 101, 97, 100]), .lit (.string [114, 101, 99, 111, 114, 100]), .lit (.string [115, 116, 114]), .lit (.string [116, 104, 101, 110]), .lit (.string [116, 114, 117, 101]), .lit (.string [119, 105, 116, 104])]
def laid_gradus_types_plainNames {H : Type} : DataW H := .agg [.lit (.string [97, 110, 121]), .lit (.string [110, 117, 108, 108]), .lit (.string [98, 111, 111, 108]), .lit (.string [105, 110, 116]), .lit (.string [115, 116, 114])]
def laid_math_bits_deBruijn32tab {H : Type} : DataW H := .agg [.lit (.int .u8 0), .lit (.int .u8 1), .lit (.int .u8 28), .lit (.int .u8 2), .lit (.int .u8 29), .lit (.int .u8 14), .lit (.int .u8 24), .lit (.int .u8 3), .lit (.int .u8 30), .lit (.int .u8 22), .lit (.int .u8 20), .lit (.int .u8 15), .lit (.int .u8 25), .lit (.int .u8 17), .lit (.int .u8 4), .lit (.int .u8 8), .lit (.int .u8 31), .lit (.int .u8 27), .lit (.int .u8 13), .lit (.int .u8 23), .lit (.int .u8 21), .lit (.int .u8 19), .lit (.int .u8 16), .lit (.int .u8 7), .lit (.int .u8 26), .lit (.int .u8 12), .lit (.int .u8 18), .lit (.int .u8 6), .lit (.int .u8 11), .lit (.int .u8 5), .lit (.int .u8 10), .lit (.int .u8 9)]
def laid_math_bits_deBruijn64tab {H : Type} : DataW H := .agg [.lit (.int .u8 0), .lit (.int .u8 1), .lit (.int .u8 56), .lit (.int .u8 2), .lit (.int .u8 57), .lit (.int .u8 49), .lit (.int .u8 28), .lit (.int .u8 3), .lit (.int .u8 61), .lit (.int .u8 58), .lit (.int .u8 42), .lit (.int .u8 50), .lit (.int .u8 38), .lit (.int .u8 29), .lit (.int .u8 17), .lit (.int .u8 4), .lit (.int .u8 62), .lit (.int .u8 47), .lit (.int .u8 59), .lit (.int .u8 36), .lit (.int .u8 45), .lit (.int .u8 43), .lit (.int .u8 51), .lit (.int .u8 22), .lit (.int .u8 53), .lit (.int .u8 39), .lit (.int .u8 33), .lit (.int .u8 30), .lit (.int .u8 24), .lit (.int .u8 18), .lit (.int .u8 12), .lit (.int .u8 5), .lit (.int .u8 63), .lit (.int .u8 55), .lit (.int .u8 48), .lit (.int .u8 27), .lit (.int .u8 60), .lit (.int .u8 41), .lit (.int .u8 37), .lit (.int .u8 16), .lit (.int .u8 46), .lit (.int .u8 35), .lit (.int .u8 44), .lit (.int .u8 21), .lit (.int .u8 52), .lit (.int .u8 32), .lit (.int .u8 23), .lit (.int .u8 11), .lit (.int .u8 54), .lit (.int .u8 26), .lit (.int .u8 40), .lit (.int .u8 15), .lit (.int .u8 34), .lit (.int .u8 20), .lit (.int .u8 31), .lit (.int .u8 10), .lit (.int .u8 25), .lit (.int .u8 14), .lit (.int .u8 19), .lit (.int .u8 9), .lit (.int .u8 13), .lit (.int .u8 8), .lit (.int .u8 7), .lit (.int .u8 6)]
def laid_internal_strconv_uint64pow10 {H : Type} : DataW H := .agg [.lit (.int .u64 1), .lit (.int .u64 10), .lit (.int .u64 100), .lit (.int .u64 1000), .lit (.int .u64 10000), .lit (.int .u64 100000), .lit (.int .u64 1000000), .lit (.int .u64 10000000), .lit (.int .u64 100000000), .lit (.int .u64 1000000000), .lit (.int .u64 10000000000), .lit (.int .u64 100000000000), .lit (.int .u64 1000000000000), .lit (.int .u64 10000000000000), .lit (.int .u64 100000000000000), .lit (.int .u64 1000000000000000), .lit (.int .u64 10000000000000000), .lit (.int .u64 100000000000000000), .lit (.int .u64 1000000000000000000), .lit (.int .u64 10000000000000000000)]
def laid_gradus_tree_nodeForms {H : Type} : DataW H := .agg [.agg [.lit (.int .i64 0), .lit (.int .i64 9223372036854775807), .agg [.lit (.int .i64 0), .lit (.int .i64 0)], .agg [.lit (.int .i64 0), .lit (.int .i64 0)], .lit (.bool false)], .agg [.lit (.int .i64 2), .lit (.int .i64 0), .agg [.lit (.int .i64 0), .lit (.int .i64 0)], .agg [.lit (.int .i64 0), .lit (.int .i64 0)], .lit (.bool false)], .agg [.lit (.int .i64 0), .lit (.int .i64 1), .agg [.lit (.int .i64 0), .lit (.int .i64 0)], .agg [.lit (.int .i64 0), .lit (.int .i64 0)], .lit (.bool false)], .agg [.lit (.int .i64 0), .lit (.int .i64 0), .agg [.lit (.int .i64 0), .lit (.int .i64 0)], .agg [.lit (.int .i64 0), .lit (.int .i64 0)], .lit (.bool false)], .agg [.lit (.int .i64 1), .lit (.int .i64 0), .agg [.lit (.int .i64 0), .lit (.int .i64 0)], .agg [.lit (.int .i64 0), .lit (.int .i64 0)], .lit (.bool false)], .agg [.lit (.int .i64 1), .lit (.int .i64 0), .agg [.lit (.int .i64 0), .lit (.int .i64 1)], .agg [.lit (.int .i64 2), .lit (.int .i64 2)], .lit (.bool false)], .agg [.lit (.int .i64 1), .lit (.int .i64 0), .agg [.lit (.int .i64 1), .lit (.int .i64 2)], .agg [.lit (.int .i64 1), .lit (.int .i64 1)], .lit (.bool false)], .agg [.lit (.int .i64 0), .lit (.int .i64 0), .agg [.lit (.int .i64 0), .lit (.int .i64 0)], .agg [.lit (.int .i64 2), .lit (.int .i64 2)], .lit (.bool false)], .agg [.lit (.int .i64 0), .lit (.int .i64 0), .agg [.lit (.int .i64 0), .lit (.int .i64 0)], .agg [.lit (.int .i64 0), .lit (.int .i64 9223372036854775807)], .lit (.bool true)], .agg [.lit (.int .i64 1), .lit (.int .i64 0), .agg [.lit (.int .i64 0), .lit (.int .i64 0)], .agg [.lit (.int .i64 1), .lit (.int .i64 1)], .lit (.bool false)], .agg [.lit (.int .i64 1), .lit (.int .i64 0), .agg [.lit (.int .i64 0), .lit (.int .i64 0)], .agg [.lit (.int .i64 2), .lit (.int .i64 2)], .lit (.bool false)], .agg [.lit (.int .i64 0), .lit (.int .i64 0), .agg [.lit (.int .i64 0), .lit (.int .i64 0)], .agg [.lit (.int .i64 3), .lit (.int .i64 3)], .lit (.bool false)], .agg [.lit (.int .i64 0), .lit (.int .i64 5), .agg [.lit (.int .i64 0), .lit (.int .i64 0)], .agg [.lit (.int .i64 1), .lit (.int .i64 1)], .lit (.bool false)], .agg [.lit (.int .i64 0), .lit (.int .i64 0), .agg [.lit (.int .i64 1), .lit (.int .i64 1)], .agg [.lit (.int .i64 1), .lit (.int .i64 1)], .lit (.bool false)], .agg [.lit (.int .i64 3), .lit (.int .i64 0), .agg [.lit (.int .i64 0), .lit (.int .i64 0)], .agg [.lit (.int .i64 2), .lit (.int .i64 2)], .lit (.bool false)], .agg [.lit (.int .i64 0), .lit (.int .i64 0), .agg [.lit (.int .i64 0), .lit (.int .i64 0)], .agg [.lit (.int .i64 1), .lit (.int .i64 1)], .lit (.bool false)], .agg [.lit (.int .i64 0), .lit (.int .i64 0), .agg [.lit (.int .i64 0), .lit (.int .i64 0)], .agg [.lit (.int .i64 1), .lit (.int .i64 1)], .lit (.bool false)], .agg [.lit (.int .i64 0), .lit (.int .i64 0), .agg [.lit (.int .i64 0), .lit (.int .i64 0)], .agg [.lit (.int .i64 1), .lit (.int .i64 1)], .lit (.bool false)], .agg [.lit (.int .i64 0), .lit (.int .i64 0), .agg [.lit (.int .i64 0), .lit (.int .i64 0)], .agg [.lit (.int .i64 0), .lit (.int .i64 0)], .lit (.bool false)], .agg [.lit (.int .i64 1), .lit (.int .i64 0), .agg [.lit (.int .i64 1), .lit (.int .i64 9223372036854775807)], .agg [.lit (.int .i64 0), .lit (.int .i64 0)], .lit (.bool false)]]
def laid_gradus_tree_typeForms {H : Type} : DataW H := .agg [.agg [.lit (.int .i64 0), .agg [.lit (.int .i64 0), .lit (.int .i64 0)], .lit (.bool false)], .agg [.lit (.int .i64 0), .agg [.lit (.int .i64 0), .lit (.int .i64 0)], .lit (.bool false)], .agg [.lit (.int .i64 0), .agg [.lit (.int .i64 0), .lit (.int .i64 0)], .lit (.bool false)], .agg [.lit (.int .i64 0), .agg [.lit (.int .i64 0), .lit (.int .i64 0)], .lit (.bool false)], .agg [.lit (.int .i64 0), .agg [.lit (.int .i64 0), .lit (.int .i64 0)], .lit (.bool false)], .agg [.lit (.int .i64 0), .agg [.lit (.int .i64 0), .lit (.int .i64 9223372036854775807)], .lit (.bool true)], .agg [.lit (.int .i64 0), .agg [.lit (.int .i64 2), .lit (.int .i64 2)], .lit (.bool false)], .agg [.lit (.int .i64 0), .agg [.lit (.int .i64 2), .lit (.int .i64 9223372036854775807)], .lit (.bool false)], .agg [.lit (.int .i64 1), .agg [.lit (.int .i64 0), .lit (.int .i64 0)], .lit (.bool false)]]
def laid_gradus_tree_plainNames {H : Type} : DataW H := .agg [.lit (.string [97, 110, 121]), .lit (.string [110, 117, 108, 108]), .lit (.string [98, 111, 111, 108]), .lit (.string [105, 110, 116]), .lit (.string [115, 116, 114])]
def laid_gradus_tree_tagNames {H : Type} : DataW H := .agg [.lit (.string [110, 117, 108, 108]), .lit (.string [98, 111, 111, 108]), .lit (.string [105, 110, 116]), .lit (.string [115, 116, 114]), .lit (.string [114, 101, 99, 111, 114, 100]), .lit (.string [102, 117, 110, 99, 116, 105, 111, 110])]
def laid_gradus_tree_boolNames {H : Type} : DataW H := .agg [.lit (.string [102, 97, 108, 115, 101]), .lit (.string [116, 114, 117, 101])]
def laid_gradus_tree_ops {H : Type} : DataW H := .agg [.lit (.string [111, 114]), .lit (.string [97, 110, 100]), .lit (.string [60]), .lit (.string [60, 61]), .lit (.string [61, 61]), .lit (.string [43, 43]), .lit (.string [43]), .lit (.string [45]), .lit (.string [94]), .lit (.string [42]), .lit (.string [47]), .lit (.string [37]), .lit (.string [38]), .lit (.string [60, 60]), .lit (.string [62, 62])]

/-- 'graduslaw03.TypesTags': WHATEVER THE INPUT: true; the input reads as it did. -/
def typesTagsSpec : ChangeSpec := { name := "typesTags", fn := fun _ => fun
  | [d1, d2] => { results := [.lit (.bool true)], args := [d1, d2] }
  | _ => none }
def typesTagsRow : OpenClaim := { program := "ytmpcjcjacpjilaadoor", sum := "34533ee44c0b1c0344d637d32f36ebaa735fd5e874f86dcaf0ac9db8e9deb507", func := "gradus/graduslaw03.TypesTags", spec := "typesTags", inPlace := ["internal/bytealg.abigen_runtime_cmpstring", "internal/abi.NoEscape", "internal/bytealg.MakeNoZero"], unfollowed := true, recurses := true, named := ["gradus/lex.ownWords", "gradus/types.plainNames"], loops := true, plainKeys := false, apart := false, laid := [("gradus/lex.ownWords", laid_gradus_lex_ownWords), ("gradus/types.plainNames", laid_gradus_types_plainNames)] }
def TypesTagsSaid : Prop := typesTagsRow.holds Tryd.pinned (OpenSpec.ofChange typesTagsSpec)

/-- ITS FALSE NEIGHBOUR: 'it returns false'. Refute it at one input. -/
def typesTagsWrong : ChangeSpec := { name := "typesTags", fn := fun _ => fun
  | [d1, d2] => { results := [.lit (.bool false)], args := [d1, d2] }
  | _ => none }
def TypesTagsWrongFalsely : Prop := typesTagsRow.holds Tryd.pinned (OpenSpec.ofChange typesTagsWrong)

/-- 'graduslaw03.TypesParts': WHATEVER THE INPUT: true; the input reads as it did. -/
def typesPartsSpec : ChangeSpec := { name := "typesParts", fn := fun _ => fun
  | [d1, d2] => { results := [.lit (.bool true)], args := [d1, d2] }
  | _ => none }
def typesPartsRow : OpenClaim := { program := "ytmpcjcjacpjilaadoor", sum := "34533ee44c0b1c0344d637d32f36ebaa735fd5e874f86dcaf0ac9db8e9deb507", func := "gradus/graduslaw03.TypesParts", spec := "typesParts", inPlace := ["internal/bytealg.abigen_runtime_cmpstring", "internal/abi.NoEscape", "internal/bytealg.MakeNoZero"], unfollowed := true, recurses := true, named := ["gradus/lex.ownWords", "gradus/types.plainNames"], loops := true, plainKeys := false, apart := false, laid := [("gradus/lex.ownWords", laid_gradus_lex_ownWords), ("gradus/types.plainNames", laid_gradus_types_plainNames)] }
def TypesPartsSaid : Prop := typesPartsRow.holds Tryd.pinned (OpenSpec.ofChange typesPartsSpec)

/-- ITS FALSE NEIGHBOUR: 'it returns false'. Refute it at one input. -/
def typesPartsWrong : ChangeSpec := { name := "typesParts", fn := fun _ => fun
  | [d1, d2] => { results := [.lit (.bool false)], args := [d1, d2] }
  | _ => none }
def TypesPartsWrongFalsely : Prop := typesPartsRow.holds Tryd.pinned (OpenSpec.ofChange typesPartsWrong)

/-- 'graduslaw04.TreeExprs': WHATEVER THE INPUT: true; the input reads as it did. -/
def treeExprsSpec : ChangeSpec := { name := "treeExprs", fn := fun _ => fun
  | [d] => { results := [.lit (.bool true)], args := [d] }
  | _ => none }
def treeExprsRow : OpenClaim := { program := "ytmpcjcjacpjilaadoor", sum := "34533ee44c0b1c0344d637d32f36ebaa735fd5e874f86dcaf0ac9db8e9deb507", func := "gradus/graduslaw04.TreeExprs", spec := "treeExprs", inPlace := ["internal/bytealg.IndexByteString", "internal/abi.NoEscape", "internal/bytealg.MakeNoZero"], unfollowed := true, recurses := true, named := ["gradus/tree.nodeForms", "gradus/lex.ownWords", "gradus/tree.ops", "gradus/tree.typeForms", "gradus/tree.boolNames", "gradus/tree.tagNames", "internal/strconv.uint64pow10", "math/bits.deBruijn32tab", "math/bits.deBruijn64tab", "gradus/tree.plainNames"], loops := true, plainKeys := false, apart := false, laid := [("math/bits.deBruijn32tab", laid_math_bits_deBruijn32tab), ("math/bits.deBruijn64tab", laid_math_bits_deBruijn64tab), ("internal/strconv.uint64pow10", laid_internal_strconv_uint64pow10), ("gradus/lex.ownWords", laid_gradus_lex_ownWords), ("gradus/tree.nodeForms", laid_gradus_tree_nodeForms), ("gradus/tree.typeForms", laid_gradus_tree_typeForms), ("gradus/tree.plainNames", laid_gradus_tree_plainNames), ("gradus/tree.tagNames", laid_gradus_tree_tagNames), ("gradus/tree.boolNames", laid_gradus_tree_boolNames), ("gradus/tree.ops", laid_gradus_tree_ops)] }
def TreeExprsSaid : Prop := treeExprsRow.holds Tryd.pinned (OpenSpec.ofChange treeExprsSpec)

/-- ITS FALSE NEIGHBOUR: 'it returns false'. Refute it at one input. -/
def treeExprsWrong : ChangeSpec := { name := "treeExprs", fn := fun _ => fun
  | [d] => { results := [.lit (.bool false)], args := [d] }
  | _ => none }
def TreeExprsWrongFalsely : Prop := treeExprsRow.holds Tryd.pinned (OpenSpec.ofChange treeExprsWrong)

/-- 'graduslaw04.TreeTypes': WHATEVER THE INPUT: true; the input reads as it did. -/
def treeTypesSpec : ChangeSpec := { name := "treeTypes", fn := fun _ => fun
  | [d] => { results := [.lit (.bool true)], args := [d] }
  | _ => none }
def treeTypesRow : OpenClaim := { program := "ytmpcjcjacpjilaadoor", sum := "34533ee44c0b1c0344d637d32f36ebaa735fd5e874f86dcaf0ac9db8e9deb507", func := "gradus/graduslaw04.TreeTypes", spec := "treeTypes", inPlace := ["internal/bytealg.IndexByteString", "internal/abi.NoEscape", "internal/bytealg.MakeNoZero"], unfollowed := true, recurses := true, named := ["gradus/tree.nodeForms", "gradus/lex.ownWords", "gradus/tree.ops", "gradus/tree.typeForms", "gradus/tree.boolNames", "gradus/tree.tagNames", "internal/strconv.uint64pow10", "math/bits.deBruijn32tab", "math/bits.deBruijn64tab", "gradus/tree.plainNames"], loops := true, plainKeys := false, apart := false, laid := [("math/bits.deBruijn32tab", laid_math_bits_deBruijn32tab), ("math/bits.deBruijn64tab", laid_math_bits_deBruijn64tab), ("internal/strconv.uint64pow10", laid_internal_strconv_uint64pow10), ("gradus/lex.ownWords", laid_gradus_lex_ownWords), ("gradus/tree.nodeForms", laid_gradus_tree_nodeForms), ("gradus/tree.typeForms", laid_gradus_tree_typeForms), ("gradus/tree.plainNames", laid_gradus_tree_plainNames), ("gradus/tree.tagNames", laid_gradus_tree_tagNames), ("gradus/tree.boolNames", laid_gradus_tree_boolNames), ("gradus/tree.ops", laid_gradus_tree_ops)] }
def TreeTypesSaid : Prop := treeTypesRow.holds Tryd.pinned (OpenSpec.ofChange treeTypesSpec)

/-- ITS FALSE NEIGHBOUR: 'it returns false'. Refute it at one input. -/
def treeTypesWrong : ChangeSpec := { name := "treeTypes", fn := fun _ => fun
  | [d] => { results := [.lit (.bool false)], args := [d] }
  | _ => none }
def TreeTypesWrongFalsely : Prop := treeTypesRow.holds Tryd.pinned (OpenSpec.ofChange treeTypesWrong)

/- THE SECOND FORM. 'bulk': how many values and letters a reading holds, each counted each time it is reached (what is shared counts as often as it is met; a slice's spare places count too). A statement '..UptoSaid' is the law's where the arguments, and the package variables that the reading takes, are together of bulk at most 1048576: NARROWER than '..Said'. Prove '..Said' where nothing that the law and all that it calls make is longer than what came in: it says more and counts as full. Else prove '..UptoSaid'. A law counts once. -/
mutual
def uptoBulk {H : Type} : DataW H → Nat
  | .lit (.string bytes) => bytes.length + 1
  | .lit _ => 1
  | .nil => 1
  | .ptr d => uptoBulk d + 1
  | .slice elems spare => uptoBulkAll elems + uptoBulkAll spare + 1
  | .agg parts => uptoBulkAll parts + 1
  | .iface _ d => uptoBulk d + 1
  | .map entries => uptoBulkEntries entries + 1
  | .held _ => 1
def uptoBulkAll {H : Type} : List (DataW H) → Nat
  | [] => 0
  | d :: r => uptoBulk d + uptoBulkAll r
def uptoBulkEntries {H : Type} : List (Lit × DataW H) → Nat
  | [] => 0
  | x :: r => uptoBulkEntry x + uptoBulkEntries r
def uptoBulkEntry {H : Type} : Lit × DataW H → Nat
  | (.string bytes, d) => bytes.length + uptoBulk d + 1
  | (_, d) => uptoBulk d + 1
 end
def uptoSmall : (H : Type) → List (DataW H) → Bool := fun _ ds => decide (uptoBulkAll ds ≤ 1048576)
def OpenSpec.upto (s : _root_.Go.ChangeSpec) : _root_.Go.OpenSpec := { _root_.Go.OpenSpec.ofChange s with cond := some uptoSmall }

/-- 'graduslaw03.TypesTags', WHERE WHAT IT READS IS OF BULK AT MOST 1048576: true; the input reads as it did. -/
def typesTagsUptoRow : OpenClaim := { program := "ytmpcjcjacpjilaadoor", sum := "34533ee44c0b1c0344d637d32f36ebaa735fd5e874f86dcaf0ac9db8e9deb507", func := "gradus/graduslaw03.TypesTags", spec := "typesTags", inPlace := ["internal/bytealg.abigen_runtime_cmpstring", "internal/abi.NoEscape", "internal/bytealg.MakeNoZero"], unfollowed := true, recurses := true, named := ["gradus/lex.ownWords", "gradus/types.plainNames"], loops := true, plainKeys := false, apart := false, laid := [("gradus/lex.ownWords", laid_gradus_lex_ownWords), ("gradus/types.plainNames", laid_gradus_types_plainNames)], narrowed := true }
def TypesTagsUptoSaid : Prop := typesTagsUptoRow.holds Tryd.pinned (OpenSpec.upto typesTagsSpec)

/-- 'graduslaw03.TypesParts', WHERE WHAT IT READS IS OF BULK AT MOST 1048576: true; the input reads as it did. -/
def typesPartsUptoRow : OpenClaim := { program := "ytmpcjcjacpjilaadoor", sum := "34533ee44c0b1c0344d637d32f36ebaa735fd5e874f86dcaf0ac9db8e9deb507", func := "gradus/graduslaw03.TypesParts", spec := "typesParts", inPlace := ["internal/bytealg.abigen_runtime_cmpstring", "internal/abi.NoEscape", "internal/bytealg.MakeNoZero"], unfollowed := true, recurses := true, named := ["gradus/lex.ownWords", "gradus/types.plainNames"], loops := true, plainKeys := false, apart := false, laid := [("gradus/lex.ownWords", laid_gradus_lex_ownWords), ("gradus/types.plainNames", laid_gradus_types_plainNames)], narrowed := true }
def TypesPartsUptoSaid : Prop := typesPartsUptoRow.holds Tryd.pinned (OpenSpec.upto typesPartsSpec)

/-- 'graduslaw04.TreeExprs', WHERE WHAT IT READS IS OF BULK AT MOST 1048576: true; the input reads as it did. -/
def treeExprsUptoRow : OpenClaim := { program := "ytmpcjcjacpjilaadoor", sum := "34533ee44c0b1c0344d637d32f36ebaa735fd5e874f86dcaf0ac9db8e9deb507", func := "gradus/graduslaw04.TreeExprs", spec := "treeExprs", inPlace := ["internal/bytealg.IndexByteString", "internal/abi.NoEscape", "internal/bytealg.MakeNoZero"], unfollowed := true, recurses := true, named := ["gradus/tree.nodeForms", "gradus/lex.ownWords", "gradus/tree.ops", "gradus/tree.typeForms", "gradus/tree.boolNames", "gradus/tree.tagNames", "internal/strconv.uint64pow10", "math/bits.deBruijn32tab", "math/bits.deBruijn64tab", "gradus/tree.plainNames"], loops := true, plainKeys := false, apart := false, laid := [("math/bits.deBruijn32tab", laid_math_bits_deBruijn32tab), ("math/bits.deBruijn64tab", laid_math_bits_deBruijn64tab), ("internal/strconv.uint64pow10", laid_internal_strconv_uint64pow10), ("gradus/lex.ownWords", laid_gradus_lex_ownWords), ("gradus/tree.nodeForms", laid_gradus_tree_nodeForms), ("gradus/tree.typeForms", laid_gradus_tree_typeForms), ("gradus/tree.plainNames", laid_gradus_tree_plainNames), ("gradus/tree.tagNames", laid_gradus_tree_tagNames), ("gradus/tree.boolNames", laid_gradus_tree_boolNames), ("gradus/tree.ops", laid_gradus_tree_ops)], narrowed := true }
def TreeExprsUptoSaid : Prop := treeExprsUptoRow.holds Tryd.pinned (OpenSpec.upto treeExprsSpec)

/-- 'graduslaw04.TreeTypes', WHERE WHAT IT READS IS OF BULK AT MOST 1048576: true; the input reads as it did. -/
def treeTypesUptoRow : OpenClaim := { program := "ytmpcjcjacpjilaadoor", sum := "34533ee44c0b1c0344d637d32f36ebaa735fd5e874f86dcaf0ac9db8e9deb507", func := "gradus/graduslaw04.TreeTypes", spec := "treeTypes", inPlace := ["internal/bytealg.IndexByteString", "internal/abi.NoEscape", "internal/bytealg.MakeNoZero"], unfollowed := true, recurses := true, named := ["gradus/tree.nodeForms", "gradus/lex.ownWords", "gradus/tree.ops", "gradus/tree.typeForms", "gradus/tree.boolNames", "gradus/tree.tagNames", "internal/strconv.uint64pow10", "math/bits.deBruijn32tab", "math/bits.deBruijn64tab", "gradus/tree.plainNames"], loops := true, plainKeys := false, apart := false, laid := [("math/bits.deBruijn32tab", laid_math_bits_deBruijn32tab), ("math/bits.deBruijn64tab", laid_math_bits_deBruijn64tab), ("internal/strconv.uint64pow10", laid_internal_strconv_uint64pow10), ("gradus/lex.ownWords", laid_gradus_lex_ownWords), ("gradus/tree.nodeForms", laid_gradus_tree_nodeForms), ("gradus/tree.typeForms", laid_gradus_tree_typeForms), ("gradus/tree.plainNames", laid_gradus_tree_plainNames), ("gradus/tree.tagNames", laid_gradus_tree_tagNames), ("gradus/tree.boolNames", laid_gradus_tree_boolNames), ("gradus/tree.ops", laid_gradus_tree_ops)], narrowed := true }
def TreeTypesUptoSaid : Prop := treeTypesUptoRow.holds Tryd.pinned (OpenSpec.upto treeTypesSpec)

end Rows
end Go.Proofs.YtmpcjcjacpjilaaDoor
