/- The small functions of package word, each by a contract: what the call returns, and that the world is as it was. -/
import Derived.Test.YtdlkkflenphkfaaDoorProg
import Derived.Test.YtdlkkflenphkfaaDoorNum
import Derived.KernelRfl
import Derived.WalkKit
import Derived.WalkLawsBesides
namespace Go.Proofs.YtdlkkflenphkfaaDoor
open Go.RowKit

theorem ret_i64 {x y : Int} (h : x = y) : Ending.returned (.int .i64 x) = .returned (.int .i64 y) := by rw [h]

theorem ret_u64 {x y : Int} (h : x = y) : Ending.returned (.int .u64 x) = .returned (.int .u64 y) := by rw [h]

/-- word.truth. -/
theorem truth_c (b : Bool) (w : World) : Calls Tryd.prog 24 #[.bool b] w fun e w' => e = .returned (.int .i64 (if b then 1 else 0)) ∧ w' = w := by
  cases b
  · go_enter Tryd.func24, Tryd.ntmps24
    go_wp2
    go_ret
    exact ⟨rfl, rfl⟩
  · go_enter Tryd.func24, Tryd.ntmps24
    go_wp2
    go_ret
    exact ⟨rfl, rfl⟩

theorem shiftCount_c (b : Int) (w : World) : Calls Tryd.prog 22 #[.int .i64 b] w fun e w' => e = .returned (.int .u64 (b % 64)) ∧ w' = w := by
  have e1 := count64 b
  go_enter Tryd.func22, Tryd.ntmps22
  go_wp2
  go_ret
  exact ⟨rfl, rfl⟩

theorem shiftLeft_c (a : Int) (c : Int) (h0 : 0 ≤ c) (h1 : c ≤ 63) (w : World) : Calls Tryd.prog 21 #[.int .i64 a, .int .u64 c] w fun e w' => e = .returned (.int .i64 (wrap64 (a * 2 ^ c.toNat))) ∧ w' = w := by
  go_enter Tryd.func21, Tryd.ntmps21
  go_wp2
  go_ret
  exact ⟨ret_i64 (shl64 a (2 ^ c.toNat)), rfl⟩

theorem shiftRight_c (a : Int) (c : Int) (ha0 : -9223372036854775808 ≤ a) (ha1 : a ≤ 9223372036854775807) (h0 : 0 ≤ c) (h1 : c ≤ 63) (w : World) : Calls Tryd.prog 23 #[.int .i64 a, .int .u64 c] w fun e w' => e = .returned (.int .i64 (a / 2 ^ c.toNat)) ∧ w' = w := by
  by_cases hn : a < 0
  · go_enter Tryd.func23, Tryd.ntmps23
    go_wp2
    go_ret
    exact ⟨ret_i64 (shr_neg (pow_pos64 c.toNat) ha0 hn), rfl⟩
  · go_enter Tryd.func23, Tryd.ntmps23
    go_wp2
    go_ret
    exact ⟨ret_i64 (shr_nonneg (pow_pos64 c.toNat) ha0 ha1), rfl⟩

/-- word.Bin, operation by operation: the number and the error. -/
theorem bin_add (a b : Int) (w : World) : Calls Tryd.prog 10 #[.int .i64 0, .int .i64 a, .int .i64 b] w fun e w' => e = .returned (.tuple #[.int .i64 (wrap64 (a + b)), .int .i64 0]) ∧ w' = w := by
  go_enter Tryd.func10, Tryd.ntmps10
  go_wp2
  go_ret2
  exact ⟨rfl, rfl⟩

theorem bin_sub (a b : Int) (w : World) : Calls Tryd.prog 10 #[.int .i64 1, .int .i64 a, .int .i64 b] w fun e w' => e = .returned (.tuple #[.int .i64 (wrap64 (a - b)), .int .i64 0]) ∧ w' = w := by
  go_enter Tryd.func10, Tryd.ntmps10
  go_wp2
  go_ret2
  exact ⟨rfl, rfl⟩

theorem bin_mul (a b : Int) (w : World) : Calls Tryd.prog 10 #[.int .i64 2, .int .i64 a, .int .i64 b] w fun e w' => e = .returned (.tuple #[.int .i64 (wrap64 (a * b)), .int .i64 0]) ∧ w' = w := by
  go_enter Tryd.func10, Tryd.ntmps10
  go_wp2
  go_ret2
  exact ⟨rfl, rfl⟩

theorem bin_div (a b : Int) (hb : b ≠ 0) (w : World) : Calls Tryd.prog 10 #[.int .i64 3, .int .i64 a, .int .i64 b] w fun e w' => e = .returned (.tuple #[.int .i64 (wrap64 (a.tdiv b)), .int .i64 0]) ∧ w' = w := by
  have hb1 : (b == 0) = false := by simpa using hb
  go_enter Tryd.func10, Tryd.ntmps10
  go_wp2
  go_ret2
  exact ⟨rfl, rfl⟩

theorem bin_mod (a b : Int) (hb : b ≠ 0) (w : World) : Calls Tryd.prog 10 #[.int .i64 4, .int .i64 a, .int .i64 b] w fun e w' => e = .returned (.tuple #[.int .i64 (a.tmod b), .int .i64 0]) ∧ w' = w := by
  have hb1 : (b == 0) = false := by simpa using hb
  go_enter Tryd.func10, Tryd.ntmps10
  go_wp2
  go_ret2
  exact ⟨rfl, rfl⟩

theorem bin_zero (op a : Int) (hop : op = 3 ∨ op = 4) (w : World) : Calls Tryd.prog 10 #[.int .i64 op, .int .i64 a, .int .i64 0] w fun e w' => e = .returned (.tuple #[.int .i64 0, .int .i64 23]) ∧ w' = w := by
  rcases hop with rfl | rfl
  · go_enter Tryd.func10, Tryd.ntmps10
    go_wp2
    go_ret2
    exact ⟨rfl, rfl⟩
  · go_enter Tryd.func10, Tryd.ntmps10
    go_wp2
    go_ret2
    exact ⟨rfl, rfl⟩

theorem bin_lt (a b : Int) (w : World) : Calls Tryd.prog 10 #[.int .i64 9, .int .i64 a, .int .i64 b] w fun e w' => e = .returned (.tuple #[.int .i64 (if a < b then 1 else 0), .int .i64 0]) ∧ w' = w := by
  by_cases h : a < b
  · go_enter Tryd.func10, Tryd.ntmps10
    go_wp2
    go_ret2
    exact ⟨rfl, rfl⟩
  · go_enter Tryd.func10, Tryd.ntmps10
    go_wp2
    go_ret2
    exact ⟨rfl, rfl⟩

theorem bin_le (a b : Int) (w : World) : Calls Tryd.prog 10 #[.int .i64 10, .int .i64 a, .int .i64 b] w fun e w' => e = .returned (.tuple #[.int .i64 (if a ≤ b then 1 else 0), .int .i64 0]) ∧ w' = w := by
  by_cases h : a ≤ b
  · go_enter Tryd.func10, Tryd.ntmps10
    go_wp2
    go_ret2
    exact ⟨rfl, rfl⟩
  · go_enter Tryd.func10, Tryd.ntmps10
    go_wp2
    go_ret2
    exact ⟨rfl, rfl⟩

theorem bin_and (a b : Int) (w : World) : Calls Tryd.prog 10 #[.int .i64 7, .int .i64 a, .int .i64 b] w fun e w' => e = .returned (.tuple #[.int .i64 (bits .and .i64 a b), .int .i64 0]) ∧ w' = w := by
  go_enter Tryd.func10, Tryd.ntmps10
  go_wp2
  go_ret2
  exact ⟨rfl, rfl⟩

theorem bin_xor (a b : Int) (w : World) : Calls Tryd.prog 10 #[.int .i64 8, .int .i64 a, .int .i64 b] w fun e w' => e = .returned (.tuple #[.int .i64 (bits .xor .i64 a b), .int .i64 0]) ∧ w' = w := by
  go_enter Tryd.func10, Tryd.ntmps10
  go_wp2
  go_ret2
  exact ⟨rfl, rfl⟩

theorem bin_shl (a b : Int) (w : World) : Calls Tryd.prog 10 #[.int .i64 5, .int .i64 a, .int .i64 b] w fun e w' => e = .returned (.tuple #[.int .i64 (wrap64 (a * 2 ^ (b % 64).toNat)), .int .i64 0]) ∧ w' = w := by
  have h0 : 0 ≤ b % 64 := by omega
  have h1 : b % 64 ≤ 63 := by omega
  go_enter Tryd.func10, Tryd.ntmps10
  go_wp2_with (first
    | (go_at_call 22; refine (shiftCount_c _ _).mono ?_; rintro e w' ⟨rfl, rfl⟩)
    | (go_at_call 21; refine (shiftLeft_c _ _ h0 h1 _).mono ?_; rintro e w' ⟨rfl, rfl⟩))
  go_ret2
  exact ⟨rfl, rfl⟩

theorem bin_shr (a b : Int) (ha0 : -9223372036854775808 ≤ a) (ha1 : a ≤ 9223372036854775807) (w : World) : Calls Tryd.prog 10 #[.int .i64 6, .int .i64 a, .int .i64 b] w fun e w' => e = .returned (.tuple #[.int .i64 (a / 2 ^ (b % 64).toNat), .int .i64 0]) ∧ w' = w := by
  have h0 : 0 ≤ b % 64 := by omega
  have h1 : b % 64 ≤ 63 := by omega
  go_enter Tryd.func10, Tryd.ntmps10
  go_wp2_with (first
    | (go_at_call 22; refine (shiftCount_c _ _).mono ?_; rintro e w' ⟨rfl, rfl⟩)
    | (go_at_call 23; refine (shiftRight_c _ _ ha0 ha1 h0 h1 _).mono ?_; rintro e w' ⟨rfl, rfl⟩))
  go_ret2
  exact ⟨rfl, rfl⟩

theorem bin_other (op a b : Int) (hop : op < 0 ∨ 10 < op) (w : World) : Calls Tryd.prog 10 #[.int .i64 op, .int .i64 a, .int .i64 b] w fun e w' => e = .returned (.tuple #[.int .i64 0, .int .i64 1]) ∧ w' = w := by
  have f : ∀ k : Int, 0 ≤ k → k ≤ 10 → (op == k) = false := fun k h0 h1 => by simp; omega
  have f0 := f 0 (by omega) (by omega)
  have f1 := f 1 (by omega) (by omega)
  have f2 := f 2 (by omega) (by omega)
  have f3 := f 3 (by omega) (by omega)
  have f4 := f 4 (by omega) (by omega)
  have f5 := f 5 (by omega) (by omega)
  have f6 := f 6 (by omega) (by omega)
  have f7 := f 7 (by omega) (by omega)
  have f8 := f 8 (by omega) (by omega)
  have f9 := f 9 (by omega) (by omega)
  have f10 := f 10 (by omega) (by omega)
  clear f
  go_enter Tryd.func10, Tryd.ntmps10
  go_wp2
  go_ret2
  exact ⟨rfl, rfl⟩

/-- word.Fit. -/
theorem fit_c (n b : Int) (w : World) : Calls Tryd.prog 16 #[.int .i64 n, .int .i64 b] w fun e w' => e = .returned (.int .i64 (fitV n b)) ∧ w' = w := by
  by_cases h1 : b < 1
  · have e1 : fitV n b = 0 := if_pos (Or.inl h1)
    rw [e1]
    clear e1
    go_enter Tryd.func16, Tryd.ntmps16
    go_wp2
    go_ret
    exact ⟨rfl, rfl⟩
  by_cases h2 : 64 < b
  · have e1 : fitV n b = 0 := if_pos (Or.inr h2)
    rw [e1]
    clear e1
    go_enter Tryd.func16, Tryd.ntmps16
    go_wp2
    go_ret
    exact ⟨rfl, rfl⟩
  have e1 : fitV n b = wrap64 (n * 2 ^ (64 - b).toNat) / 2 ^ (64 - b).toNat := if_neg (by omega)
  rw [e1]
  clear e1
  have l := wrap64_lo (n * 2 ^ (64 - b).toNat)
  have u := wrap64_hi (n * 2 ^ (64 - b).toNat)
  go_enter Tryd.func16, Tryd.ntmps16
  go_wp2_with (first
    | (go_at_call 21; refine (shiftLeft_c n (64 - b) (by omega) (by omega) _).mono ?_; rintro e w' ⟨rfl, rfl⟩)
    | (go_at_call 23; refine (shiftRight_c (wrap64 (n * 2 ^ (64 - b).toNat)) (64 - b) l u (by omega) (by omega) _).mono ?_; rintro e w' ⟨rfl, rfl⟩))
  go_ret
  exact ⟨rfl, rfl⟩

/- word.fold, word.unfold: the number with its sign at the end, and back. -/
theorem fold_c (n : Int) (h0 : -9223372036854775808 ≤ n) (h1 : n ≤ 9223372036854775807) (w : World) : Calls Tryd.prog 27 #[.int .i64 n] w fun e w' => e = .returned (.int .u64 (foldV n)) ∧ w' = w := by
  by_cases hn : n < 0
  · go_enter Tryd.func27, Tryd.ntmps27
    go_wp2
    go_ret
    exact ⟨ret_u64 (fold_neg h0 hn), rfl⟩
  · go_enter Tryd.func27, Tryd.ntmps27
    go_wp2
    go_ret
    exact ⟨ret_u64 (fold_nonneg (by omega)), rfl⟩
end Go.Proofs.YtdlkkflenphkfaaDoor
