/- gradusref01.Fit by a contract, and what fits, fits again. -/
import Derived.Test.YtdlkkflenphkfaaDoorFns
namespace Go.Proofs.YtdlkkflenphkfaaDoor
open Go.RowKit

theorem fitR_c (n b : Int) (w : World) : Calls Tryd.prog 17 #[.int .i64 n, .int .i64 b] w fun e w' => e = .returned (.int .i64 (fitV n b)) ∧ w' = w := by
  by_cases h1 : b < 1
  · have e1 : fitV n b = 0 := if_pos (Or.inl h1)
    rw [e1]
    clear e1
    go_enter Tryd.func17, Tryd.ntmps17
    go_wp2
    go_ret
    exact ⟨rfl, rfl⟩
  by_cases h2 : 64 < b
  · have e1 : fitV n b = 0 := if_pos (Or.inr h2)
    rw [e1]
    clear e1
    go_enter Tryd.func17, Tryd.ntmps17
    go_wp2
    go_ret
    exact ⟨rfl, rfl⟩
  have e1 : fitV n b = wrap64 (n * 2 ^ (64 - b).toNat) / 2 ^ (64 - b).toNat := if_neg (by omega)
  rw [e1]
  clear e1
  go_enter Tryd.func17, Tryd.ntmps17
  go_wp2
  go_ret
  exact ⟨rfl, rfl⟩

theorem wrap_dvd (n : Int) (r : Nat) (hr : r ≤ 63) : wrap64 (n * 2 ^ r) / 2 ^ r * 2 ^ r = wrap64 (n * 2 ^ r) := by
  have hd : (2 : Int) ^ r ∣ 18446744073709551616 := by
    refine ⟨2 ^ (64 - r), ?_⟩
    rw [← Int.pow_add, show r + (64 - r) = 64 by omega]
    decide
  refine Int.ediv_mul_cancel ?_
  obtain ⟨q, hq⟩ : ∃ q, wrap64 (n * 2 ^ r) = n * 2 ^ r - 18446744073709551616 * q := by
    unfold wrap64
    exact ⟨(n * 2 ^ r + 9223372036854775808) / 18446744073709551616, by omega⟩
  rw [hq]
  exact Int.dvd_sub (Int.dvd_mul_left ..) (Int.dvd_trans hd (Int.dvd_mul_right ..))

theorem fit_fit (n b : Int) : fitV (fitV n b) b = fitV n b := by
  by_cases h : b < 1 ∨ 64 < b
  · rw [fitV, if_pos h, fitV, if_pos h]
  · have e1 : fitV n b = wrap64 (n * 2 ^ (64 - b).toNat) / 2 ^ (64 - b).toNat := if_neg h
    rw [e1, fitV, if_neg h, wrap_dvd n _ (by omega), wrap64_id (wrap64_lo _) (wrap64_hi _)]

theorem fit_64 (n : Int) (h0 : -9223372036854775808 ≤ n) (h1 : n ≤ 9223372036854775807) : fitV n 64 = n := by
  rw [fitV, if_neg (by omega)]
  simp only [show ((64 : Int) - 64).toNat = 0 by decide, Int.pow_zero, Int.mul_one, Int.ediv_one]
  exact wrap64_id h0 h1
end Go.Proofs.YtdlkkflenphkfaaDoor
