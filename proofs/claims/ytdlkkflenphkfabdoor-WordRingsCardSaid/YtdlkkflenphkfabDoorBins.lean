/- graduslaw01.bin, operation by operation: the number alone. -/
import Derived.Test.YtdlkkflenphkfabDoorFns
namespace Go.Proofs.YtdlkkflenphkfabDoor
open Go.RowKit

theorem binL {op a b n e0 : Int} {w : World} (h : Calls Tryd.prog 14 #[.int .i64 op, .int .i64 a, .int .i64 b] w fun e w' => e = .returned (.tuple #[.int .i64 n, .int .i64 e0]) ∧ w' = w) :
    Calls Tryd.prog 12 #[.int .i64 op, .int .i64 a, .int .i64 b] w fun e w' => e = .returned (.int .i64 n) ∧ w' = w := by
  have H := hideP h
  clear h
  go_enter Tryd.func12, Tryd.ntmps12
  go_wp2_with fail
  refine H.out.mono ?_
  rintro e w' ⟨rfl, rfl⟩
  go_wp2
  go_ret
  exact ⟨rfl, rfl⟩
end Go.Proofs.YtdlkkflenphkfabDoor
