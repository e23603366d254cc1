/- (*scanner).here by a contract. -/
import Derived.Test.YtgoppgopnhmhfaaDoorRow
import Derived.BigRegion
import Derived.Laws.Rows
import Derived.Deep.WholeRow
namespace Go.Proofs.YtgoppgopnhmhfaaDoor
open Go.RowKit

/-- A token as a value. -/
def tokA (kind : Int) (text : ByteArray) (li co : Int) : Value := .agg #[.int .i64 kind, .string text, .int .i64 li, .int .i64 co]

set_option maxHeartbeats 2000000 in
set_option maxRecDepth 100000 in
theorem here_c (S : ByteArray) (sb mb k li ls : Nat) (hk : k ≤ 65536) (hls : ls ≤ k) (w : World) (hsc : Scan w sb S k li ls mb) :
    Calls Tryd.prog 21 #[.pointer (some ⟨sb, 0, none⟩)] w fun e w' => e = .returned (tokA 0 ByteArray.empty li ((k - ls + 1 : Nat) : Int)) ∧ w.grownBy w' none := by
  have hsb := hsc.lt
  have c1 := hsc.c1
  have c2 := hsc.c2
  have c3 := hsc.c3
  clear hsc
  go_enter Tryd.func21, Tryd.ntmps21
  go_wp2
  go_region
  all_goals
    go_wp2
    refine bodyPost_ret (results_cell_row rfl _ _ w.heap.size 35 #[.int .i64 0, .string { data := #[] }, .int .i64 li, .int .i64 ((k : Int) - (ls : Int) + 1)] (0, 0) _ rfl (heap_alloc_last w _) Tryd.underlying35 rfl (by kernel_rfl)) rfl ⟨?_, ?_⟩
    · rw [show ((k - ls + 1 : Nat) : Int) = (k : Int) - (ls : Int) + 1 from by omega]
      rfl
    · exact grown_drew (World.grownBy_alloc _ _ _)
end Go.Proofs.YtgoppgopnhmhfaaDoor
