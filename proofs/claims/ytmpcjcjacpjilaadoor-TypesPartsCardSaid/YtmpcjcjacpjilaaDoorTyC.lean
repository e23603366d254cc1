/- How this program lays types out; small facts of memory that the contracts of stage 3 share. -/
import Derived.Test.YtmpcjcjacpjilaaDoorNameB
import Derived.Test.YtmpcjcjacpjilaaDoorTyOpen
import Derived.WalkSmall
import Derived.Laws.Rows
import Derived.Deep.WholeRow
import Derived.OneCell
import Derived.Deep.QuietTactic
import Derived.BigQuiet
namespace Go.Proofs.YtmpcjcjacpjilaaDoor
open Go.RowKit

theorem tyRow : TyRow Tryd.prog 25 22 23 3 9 where
  uT := ⟨_, _, _, _, Tryd.underlying25, ⟨rfl, rfl⟩, ⟨rfl, rfl⟩, ⟨rfl, rfl⟩, ⟨rfl, rfl⟩⟩
  uI := Tryd.underlying3
  uS := Tryd.underlying9
  uN := Tryd.underlying22
  uK := Tryd.underlying23
  cT := by kernel_rfl
  cI := by kernel_rfl
  cS := by kernel_rfl
  cN := by kernel_rfl
  cK := by kernel_rfl
  bT := of_decide_eq_true (by kernel_rfl)
  bS := of_decide_eq_true (by kernel_rfl)

theorem below_next {w w1 w2 : World} (h : Below w.heap.size w w1) (k : Below w1.heap.size w1 w2) : Below w.heap.size w w2 := h.trans (k.mono h.size)
theorem bl_alloc (w : World) (o : Obj) : Below w.heap.size w (w.alloc o) := (Below.refl _ w).alloc (Nat.le_refl _) o
theorem ret_int {k : IntKind} {a b : Int} (h : a = b) : Ending.returned (.int k a) = .returned (.int k b) := by rw [h]

/-- A type in a box of the call's own. -/
abbrev tyO (k : Int) (nm : ByteArray) (na : Option Addr) (nl nc : Nat) (ka : Option Addr) (kl kc : Nat) : Obj := .cells #[.int .i64 k, .string nm, .slice na nl nc, .slice ka kl kc] 25

/-- The box, as long as nothing of it turns. -/
theorem box_at {w wr : World} {k : Int} {nm : ByteArray} {na : Option Addr} {nl nc : Nat} {ka : Option Addr} {kl kc B : Nat} (h : Below B (w.alloc (tyO k nm na nl nc ka kl kc)) wr) (hB : w.heap.size < B) :
    wr.cell? ⟨w.heap.size, 0, none⟩ = some (.int .i64 k) ∧ wr.cell? ⟨w.heap.size, 1, none⟩ = some (.string nm) ∧ wr.cell? ⟨w.heap.size, 2, none⟩ = some (.slice na nl nc) ∧ wr.cell? ⟨w.heap.size, 3, none⟩ = some (.slice ka kl kc) := by
  have hh : wr.heap[w.heap.size]? = some (tyO k nm na nl nc ka kl kc) := (h.block _ hB).trans (heap_alloc_last w _)
  refine ⟨?_, ?_, ?_, ?_⟩ <;> (rw [cell_of_row _ _ _ _ _ _ hh]; rfl)

theorem sum_take (f : Ty → Nat) (ks : List Ty) (j : Nat) (hj : j < ks.length) : ((ks.take (j + 1)).map f).sum = ((ks.take j).map f).sum + f ks[j] := by
  rw [List.take_succ_eq_append_getElem hj, List.map_append, List.sum_append]
  simp
end Go.Proofs.YtmpcjcjacpjilaaDoor
