/- Numbers of 64 bits: what wraps, shifts and complements come to, without a program in sight. -/
import Derived.WalkKit
import Derived.Laws.Bits64
import Derived.Laws.BitsLemmas
import Derived.Laws.BitsAllLaws
namespace Go.Proofs.YtdlkkflenphkfaaDoor
open Go.RowKit

theorem hideP {p : Prop} (h : p) : Hid p := h

theorem wrap64_congr {x y : Int} (h : x % 18446744073709551616 = y % 18446744073709551616) : wrap64 x = wrap64 y := by
  unfold wrap64
  omega

theorem wrap64_mod (x : Int) : wrap64 x % 18446744073709551616 = x % 18446744073709551616 := by
  unfold wrap64
  omega

theorem wrap64_id {x : Int} (h0 : -9223372036854775808 ≤ x) (h1 : x ≤ 9223372036854775807) : wrap64 x = x := by
  unfold wrap64
  omega

theorem wrap64_lo (x : Int) : -9223372036854775808 ≤ wrap64 x := by
  unfold wrap64
  omega

theorem wrap64_hi (x : Int) : wrap64 x ≤ 9223372036854775807 := by
  unfold wrap64
  omega

theorem mul_mod_left (a p : Int) : (a % 18446744073709551616 * p) % 18446744073709551616 = (a * p) % 18446744073709551616 := by
  rw [Int.mul_emod, Int.emod_emod, ← Int.mul_emod]

theorem count64 (b : Int) : (IntKind.u64.wrap b).tmod 64 = b % 64 := by
  rw [IntKind.wrap_u64, Int.tmod_eq_emod_of_nonneg (by omega)]
  omega

theorem shl64 (a p : Int) : wrap64 (IntKind.u64.wrap (IntKind.u64.wrap a * p)) = wrap64 (a * p) := by
  apply wrap64_congr
  rw [IntKind.wrap_u64, IntKind.wrap_u64, Int.emod_emod, mul_mod_left]

theorem not64 (x : Int) (h0 : -9223372036854775808 ≤ x) (h1 : x ≤ 9223372036854775807) : bits .xor .i64 (-1) x = -1 - x := by
  show IntKind.i64.wrap ((BitVec.ofInt 64 (-1) ^^^ BitVec.ofInt 64 x).toNat : Int) = _
  have e1 : BitVec.ofInt 64 (-1) = BitVec.allOnes 64 := by decide
  rw [e1, BitVec.allOnes_xor, BitVec.toNat_not, BitVec.toNat_ofInt, IntKind.wrap_i64]
  omega

theorem pow_pos64 (c : Nat) : (0 : Int) < 2 ^ c := Int.pow_pos (by decide)

theorem div_lo {a p : Int} (hp : 0 < p) (h0 : -9223372036854775808 ≤ a) : -9223372036854775808 ≤ a / p := by
  by_cases ha : 0 ≤ a
  · have := Int.ediv_nonneg ha (Int.le_of_lt hp)
    omega
  · have := Int.le_ediv_of_mul_le hp (show (-9223372036854775808) * p ≤ a from by
      have h2 : (-9223372036854775808) * p ≤ (-9223372036854775808) * 1 := Int.mul_le_mul_of_nonpos_left (by omega) (by omega)
      omega)
    exact this

theorem div_hi {a p : Int} (hp : 0 < p) (h1 : a ≤ 9223372036854775807) : a / p ≤ 9223372036854775807 := by
  by_cases ha : 0 ≤ a
  · have := Int.ediv_le_self p ha
    omega
  · have := Int.ediv_neg_of_neg_of_pos (show a < 0 by omega) hp
    omega

theorem not_div (a p : Int) (hp : 0 < p) : -1 - (-1 - a) / p = a / p := by
  have e : (-1 - a) = -(a + 1) := by omega
  rw [e]
  have h1 := Int.mul_ediv_add_emod a p
  have h2 := Int.emod_nonneg a (show p ≠ 0 by omega)
  have h3 := Int.emod_lt_of_pos a hp
  have e2 : (-1 - a / p) * p = -p - p * (a / p) := by rw [Int.sub_mul, Int.mul_comm (a / p) p]; omega
  have : (-(a + 1)) / p = -1 - a / p := by
    rw [Int.ediv_eq_iff_of_pos hp]
    constructor <;> omega
  omega

theorem shr_nonneg {a p : Int} (hp : 0 < p) (ha0 : -9223372036854775808 ≤ a) (ha1 : a ≤ 9223372036854775807) : wrap64 (a / p) = a / p :=
  wrap64_id (div_lo hp ha0) (div_hi hp ha1)

theorem shr_neg {a p : Int} (hp : 0 < p) (ha0 : -9223372036854775808 ≤ a) (ha : a < 0) :
    bits .xor .i64 (-1) (wrap64 (IntKind.u64.wrap (bits .xor .i64 (-1) a) / p)) = a / p := by
  rw [not64 a ha0 (by omega), IntKind.wrap_u64, show (-1 - a) % 18446744073709551616 = -1 - a by omega]
  have l := div_lo hp (show -9223372036854775808 ≤ -1 - a by omega)
  have u := div_hi hp (show -1 - a ≤ 9223372036854775807 by omega)
  rw [wrap64_id l u, not64 _ l u, not_div a p hp]

theorem not64u (x : Int) (h0 : 0 ≤ x) (h1 : x < 18446744073709551616) : bits .xor .u64 IntKind.u64.max x = 18446744073709551615 - x := by
  show IntKind.u64.wrap ((BitVec.ofInt 64 IntKind.u64.max ^^^ BitVec.ofInt 64 x).toNat : Int) = _
  have e1 : BitVec.ofInt 64 IntKind.u64.max = BitVec.allOnes 64 := by decide
  rw [e1, BitVec.allOnes_xor, BitVec.toNat_not, BitVec.toNat_ofInt, IntKind.wrap_u64]
  omega

/-- The number with its sign at the end, and back. -/
def foldV (n : Int) : Int := if n < 0 then -2 * n - 1 else 2 * n
def unfoldV (u : Int) : Int := if u % 2 = 1 then -1 - u / 2 else u / 2

theorem fold_neg {n : Int} (h0 : -9223372036854775808 ≤ n) (hn : n < 0) : bits .xor .u64 IntKind.u64.max (IntKind.u64.wrap (IntKind.u64.wrap n * 2)) = foldV n := by
  have e1 : IntKind.u64.wrap (IntKind.u64.wrap n * 2) = 2 * n + 18446744073709551616 := by
    rw [IntKind.wrap_u64, IntKind.wrap_u64]
    omega
  rw [e1, not64u _ (by omega) (by omega), foldV, if_pos hn]
  omega

theorem fold_nonneg {n : Int} (hn : ¬ n < 0) : n * 2 = foldV n := by
  rw [foldV, if_neg hn]
  omega

theorem unfold_odd {u : Int} (h0 : 0 ≤ u) (h1 : u < 18446744073709551616) (hn : u % 2 = 1) : bits .xor .i64 (-1) (u / 2) = unfoldV u := by
  rw [not64 _ (by omega) (by omega), unfoldV, if_pos hn]

theorem unfold_even {u : Int} (hn : ¬ u % 2 = 1) : u / 2 = unfoldV u := by
  rw [unfoldV, if_neg hn]

theorem foldV_lo (n : Int) : 0 ≤ foldV n := by
  unfold foldV
  split <;> omega

theorem foldV_hi {n : Int} (h0 : -9223372036854775808 ≤ n) (h1 : n ≤ 9223372036854775807) : foldV n < 18446744073709551616 := by
  unfold foldV
  split <;> omega

theorem unfold_fold (n : Int) : unfoldV (foldV n) = n := by
  unfold unfoldV foldV
  split <;> split <;> omega

theorem fold_unfold {u : Int} (h0 : 0 ≤ u) : foldV (unfoldV u) = u := by
  unfold unfoldV foldV
  split <;> split <;> omega

theorem unfoldV_lo {u : Int} (h0 : 0 ≤ u) (h1 : u < 18446744073709551616) : -9223372036854775808 ≤ unfoldV u := by
  unfold unfoldV
  split <;> omega

theorem unfoldV_hi {u : Int} (h0 : 0 ≤ u) (h1 : u < 18446744073709551616) : unfoldV u ≤ 9223372036854775807 := by
  unfold unfoldV
  split <;> omega

/-- What of a number fits into so many bits. -/
def fitV (n b : Int) : Int := if b < 1 ∨ 64 < b then 0 else wrap64 (n * 2 ^ (64 - b).toNat) / 2 ^ (64 - b).toNat
end Go.Proofs.YtdlkkflenphkfaaDoor
