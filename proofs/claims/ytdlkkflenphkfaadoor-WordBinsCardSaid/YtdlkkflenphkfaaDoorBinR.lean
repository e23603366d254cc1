/- gradusref01.Bin, operation by operation: the same as word.Bin's. -/
import Derived.Test.YtdlkkflenphkfaaDoorFns
namespace Go.Proofs.YtdlkkflenphkfaaDoor
open Go.RowKit

theorem bitR_c (b : Bool) (w : World) : Calls Tryd.prog 25 #[.bool b] w fun e w' => e = .returned (.int .i64 (if b then 1 else 0)) ∧ w' = w := by
  cases b
  all_goals
    go_enter Tryd.func25, Tryd.ntmps25
    go_wp2
    go_ret
    exact ⟨rfl, rfl⟩

theorem and63 (b : Int) : bits .and .i64 b 63 = b % 64 := by
  show IntKind.i64.wrap ((BitVec.ofInt 64 b &&& BitVec.ofInt 64 63).toNat : Int) = b % 64
  have e1 : (BitVec.ofInt 64 63).toNat = 2 ^ 6 - 1 := by decide
  rw [BitVec.toNat_and, e1, Nat.and_two_pow_sub_one_eq_mod, BitVec.toNat_ofInt, IntKind.wrap_i64]
  omega

theorem binR_add (a b : Int) (w : World) : Calls Tryd.prog 11 #[.int .i64 0, .int .i64 a, .int .i64 b] w fun e w' => e = .returned (.tuple #[.int .i64 (wrap64 (a + b)), .int .i64 0]) ∧ w' = w := by
  go_enter Tryd.func11, Tryd.ntmps11
  go_wp2
  go_ret2
  exact ⟨rfl, rfl⟩

theorem binR_sub (a b : Int) (w : World) : Calls Tryd.prog 11 #[.int .i64 1, .int .i64 a, .int .i64 b] w fun e w' => e = .returned (.tuple #[.int .i64 (wrap64 (a - b)), .int .i64 0]) ∧ w' = w := by
  go_enter Tryd.func11, Tryd.ntmps11
  go_wp2
  go_ret2
  exact ⟨rfl, rfl⟩

theorem binR_mul (a b : Int) (w : World) : Calls Tryd.prog 11 #[.int .i64 2, .int .i64 a, .int .i64 b] w fun e w' => e = .returned (.tuple #[.int .i64 (wrap64 (a * b)), .int .i64 0]) ∧ w' = w := by
  go_enter Tryd.func11, Tryd.ntmps11
  go_wp2
  go_ret2
  exact ⟨rfl, rfl⟩

theorem tup2 {x y : Int} (h : x = y) : Ending.returned (.tuple #[.int .i64 x, .int .i64 0]) = .returned (.tuple #[.int .i64 y, .int .i64 0]) := by rw [h]

theorem binR_div (a b : Int) (hb : b ≠ 0) (w : World) : Calls Tryd.prog 11 #[.int .i64 3, .int .i64 a, .int .i64 b] w fun e w' => e = .returned (.tuple #[.int .i64 (wrap64 (a.tdiv b)), .int .i64 0]) ∧ w' = w := by
  have hb1 : (b == 0) = false := by simpa using hb
  by_cases hm : b = -1
  · subst hm
    go_enter Tryd.func11, Tryd.ntmps11
    go_wp2
    go_ret2
    exact ⟨tup2 (by rw [Int.tdiv_neg, Int.tdiv_one]), rfl⟩
  · have hm1 : (b == -1) = false := by simpa using hm
    go_enter Tryd.func11, Tryd.ntmps11
    go_wp2
    go_ret2
    exact ⟨rfl, rfl⟩

theorem binR_mod (a b : Int) (hb : b ≠ 0) (w : World) : Calls Tryd.prog 11 #[.int .i64 4, .int .i64 a, .int .i64 b] w fun e w' => e = .returned (.tuple #[.int .i64 (a.tmod b), .int .i64 0]) ∧ w' = w := by
  have hb1 : (b == 0) = false := by simpa using hb
  by_cases hm : b = -1
  · subst hm
    go_enter Tryd.func11, Tryd.ntmps11
    go_wp2
    go_ret2
    exact ⟨tup2 (by rw [Int.tmod_neg, Int.tmod_one]), rfl⟩
  · have hm1 : (b == -1) = false := by simpa using hm
    go_enter Tryd.func11, Tryd.ntmps11
    go_wp2
    go_ret2
    exact ⟨rfl, rfl⟩

theorem binR_zero (op a : Int) (hop : op = 3 ∨ op = 4) (w : World) : Calls Tryd.prog 11 #[.int .i64 op, .int .i64 a, .int .i64 0] w fun e w' => e = .returned (.tuple #[.int .i64 0, .int .i64 23]) ∧ w' = w := by
  rcases hop with rfl | rfl
  all_goals
    go_enter Tryd.func11, Tryd.ntmps11
    go_wp2
    go_ret2
    exact ⟨rfl, rfl⟩

theorem binR_shl (a b : Int) (w : World) : Calls Tryd.prog 11 #[.int .i64 5, .int .i64 a, .int .i64 b] w fun e w' => e = .returned (.tuple #[.int .i64 (wrap64 (a * 2 ^ (b % 64).toNat)), .int .i64 0]) ∧ w' = w := by
  have h0 : 0 ≤ b % 64 := by omega
  have h1 : b % 64 ≤ 63 := by omega
  have e := and63 b
  go_enter Tryd.func11, Tryd.ntmps11
  go_wp2
  go_ret2
  exact ⟨rfl, rfl⟩

theorem binR_shr (a b : Int) (w : World) : Calls Tryd.prog 11 #[.int .i64 6, .int .i64 a, .int .i64 b] w fun e w' => e = .returned (.tuple #[.int .i64 (a / 2 ^ (b % 64).toNat), .int .i64 0]) ∧ w' = w := by
  have h0 : 0 ≤ b % 64 := by omega
  have h1 : b % 64 ≤ 63 := by omega
  have e := and63 b
  go_enter Tryd.func11, Tryd.ntmps11
  go_wp2
  go_ret2
  exact ⟨rfl, rfl⟩

theorem binR_and (a b : Int) (w : World) : Calls Tryd.prog 11 #[.int .i64 7, .int .i64 a, .int .i64 b] w fun e w' => e = .returned (.tuple #[.int .i64 (bits .and .i64 a b), .int .i64 0]) ∧ w' = w := by
  go_enter Tryd.func11, Tryd.ntmps11
  go_wp2
  go_ret2
  exact ⟨rfl, rfl⟩

theorem binR_xor (a b : Int) (w : World) : Calls Tryd.prog 11 #[.int .i64 8, .int .i64 a, .int .i64 b] w fun e w' => e = .returned (.tuple #[.int .i64 (bits .xor .i64 a b), .int .i64 0]) ∧ w' = w := by
  go_enter Tryd.func11, Tryd.ntmps11
  go_wp2
  go_ret2
  exact ⟨rfl, rfl⟩

theorem binR_lt (a b : Int) (w : World) : Calls Tryd.prog 11 #[.int .i64 9, .int .i64 a, .int .i64 b] w fun e w' => e = .returned (.tuple #[.int .i64 (if a < b then 1 else 0), .int .i64 0]) ∧ w' = w := by
  by_cases h : a < b
  all_goals
    go_enter Tryd.func11, Tryd.ntmps11
    go_wp2
    go_ret2
    exact ⟨rfl, rfl⟩

theorem binR_le (a b : Int) (w : World) : Calls Tryd.prog 11 #[.int .i64 10, .int .i64 a, .int .i64 b] w fun e w' => e = .returned (.tuple #[.int .i64 (if a ≤ b then 1 else 0), .int .i64 0]) ∧ w' = w := by
  by_cases h : a ≤ b
  all_goals
    go_enter Tryd.func11, Tryd.ntmps11
    go_wp2
    go_ret2
    exact ⟨rfl, rfl⟩

theorem binR_other (op a b : Int) (hop : op < 0 ∨ 10 < op) (w : World) : Calls Tryd.prog 11 #[.int .i64 op, .int .i64 a, .int .i64 b] w fun e w' => e = .returned (.tuple #[.int .i64 0, .int .i64 1]) ∧ w' = w := by
  have f : ∀ k : Int, 0 ≤ k → k ≤ 10 → (op == k) = false := fun k h0 h1 => by simp; omega
  have f0 := f 0 (by omega) (by omega)
  have f1 := f 1 (by omega) (by omega)
  have f2 := f 2 (by omega) (by omega)
  have f3 := f 3 (by omega) (by omega)
  have f4 := f 4 (by omega) (by omega)
  have f5 := f 5 (by omega) (by omega)
  have f6 := f 6 (by omega) (by omega)
  have f7 := f 7 (by omega) (by omega)
  have f8 := f 8 (by omega) (by omega)
  have f9 := f 9 (by omega) (by omega)
  have f10 := f 10 (by omega) (by omega)
  clear f
  go_enter Tryd.func11, Tryd.ntmps11
  go_wp2
  go_ret2
  exact ⟨rfl, rfl⟩
end Go.Proofs.YtdlkkflenphkfaaDoor
