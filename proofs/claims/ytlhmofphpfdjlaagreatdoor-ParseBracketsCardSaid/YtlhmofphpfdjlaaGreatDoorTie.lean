/-
  DERIVED. GIVEN WITH THE SEED: THE PROGRAM's TIES (one call each: nine closed facts by the kernel) AND EACH ROW's TIE, after the 31st guide's Derived/Test/Toyas{Tie, Card}.lean. No idea stands in it: it is a product of the set-up. Laid BY PROGRAM, IN A SANDBOX (cutbox-door.mjs). By AI agents, Wed Nov 11 2026. No macro, syntax, notation, axiom, sorry.
-/
import Derived.Test.YtlhmofphpfdjlaaGreatDoorRows
import Derived.LaidByTextLater
import Derived.SevenTiedAt
import Derived.LaidSub
import Derived.LaidOnce
namespace Go.Proofs.YtlhmofphpfdjlaaGreatDoor
open Go
set_option maxRecDepth 100000
theorem seatTie1 : Tryz.prog.laidByTextLater [("math/bits.deBruijn32tab", Rows.laid_math_bits_deBruijn32tab), ("math/bits.deBruijn64tab", Rows.laid_math_bits_deBruijn64tab), ("internal/strconv.uint64pow10", Rows.laid_internal_strconv_uint64pow10), ("gradus/lex.ownWords", Rows.laid_gradus_lex_ownWords), ("gradus/tree.nodeForms", Rows.laid_gradus_tree_nodeForms), ("gradus/tree.typeForms", Rows.laid_gradus_tree_typeForms), ("gradus/tree.plainNames", Rows.laid_gradus_tree_plainNames), ("gradus/tree.tagNames", Rows.laid_gradus_tree_tagNames), ("gradus/tree.boolNames", Rows.laid_gradus_tree_boolNames), ("gradus/tree.ops", Rows.laid_gradus_tree_ops)] [.data, .data, .data, .data, .data, .data, .data, .data, .data, .data] true :=
  Program.laidByTextLater_by_one 108 8 141 (by kernel_rfl) (by kernel_rfl) (by kernel_rfl) (by kernel_rfl) (by kernel_rfl) (by kernel_rfl) (fun _ _ => by kernel_rfl)
theorem noOwnUnsafe : Tryz.pinned.checked.prog.headLifts.contains "ownunsafe" = false := by kernel_rfl
theorem tie : Tryz.prog.laidByTextLater [("math/bits.deBruijn32tab", Rows.laid_math_bits_deBruijn32tab), ("math/bits.deBruijn64tab", Rows.laid_math_bits_deBruijn64tab), ("internal/strconv.uint64pow10", Rows.laid_internal_strconv_uint64pow10), ("gradus/lex.ownWords", Rows.laid_gradus_lex_ownWords), ("gradus/tree.nodeForms", Rows.laid_gradus_tree_nodeForms), ("gradus/tree.typeForms", Rows.laid_gradus_tree_typeForms), ("gradus/tree.plainNames", Rows.laid_gradus_tree_plainNames), ("gradus/tree.tagNames", Rows.laid_gradus_tree_tagNames), ("gradus/tree.boolNames", Rows.laid_gradus_tree_boolNames), ("gradus/tree.ops", Rows.laid_gradus_tree_ops)] [.data, .data, .data, .data, .data, .data, .data, .data, .data, .data] true :=
  Program.laidByTextLater.sub seatTie1 ["math/bits.deBruijn32tab", "math/bits.deBruijn64tab", "internal/strconv.uint64pow10", "gradus/lex.ownWords", "gradus/tree.nodeForms", "gradus/tree.typeForms", "gradus/tree.plainNames", "gradus/tree.tagNames", "gradus/tree.boolNames", "gradus/tree.ops"] (by kernel_rfl) (by kernel_rfl)
theorem parseBrackets_row_tie : Rows.parseBracketsRow.laidByTextAt .later Tryz.pinned [.data, .data, .data, .data, .data, .data, .data, .data, .data, .data] true :=
  OpenClaim.laidByTextAt_later rfl rfl tie noOwnUnsafe
theorem parseBracketsUpto_row_tie : Rows.parseBracketsUptoRow.laidByTextAt .later Tryz.pinned [.data, .data, .data, .data, .data, .data, .data, .data, .data, .data] true :=
  OpenClaim.laidByTextAt_later rfl rfl tie noOwnUnsafe
end Go.Proofs.YtlhmofphpfdjlaaGreatDoor
