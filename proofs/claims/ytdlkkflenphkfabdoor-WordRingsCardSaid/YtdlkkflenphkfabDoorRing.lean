/- Sums, products, differences and bits of numbers of 64 bits go round as they should; what is shifted out and back. -/
import Derived.Test.YtdlkkflenphkfabDoorNum
namespace Go.Proofs.YtdlkkflenphkfabDoor
open Go.RowKit

theorem ring_mul (a b c : Int) : wrap64 (wrap64 (a + b) * c) = wrap64 (wrap64 (a * c) + wrap64 (b * c)) := by
  apply wrap64_congr
  have e1 : (wrap64 (a + b) * c) % 18446744073709551616 = ((a + b) * c) % 18446744073709551616 := by
    rw [Int.mul_emod, wrap64_mod, ← Int.mul_emod]
  have e2 := wrap64_mod (a * c)
  have e3 := wrap64_mod (b * c)
  rw [e1, Int.add_mul]
  omega

theorem ring_sub (a b : Int) (h0 : -9223372036854775808 ≤ a) (h1 : a ≤ 9223372036854775807) : wrap64 (wrap64 (a - b) + b) = a := by
  unfold wrap64
  omega

theorem ofInt_wrap (v : BitVec 64) : BitVec.ofInt 64 (IntKind.i64.wrap (v.toNat : Int)) = v := by
  apply BitVec.eq_of_toNat_eq
  rw [BitVec.toNat_ofInt, IntKind.wrap_i64]
  have := v.isLt
  omega

theorem wrap_ofInt (x : Int) (h0 : -9223372036854775808 ≤ x) (h1 : x ≤ 9223372036854775807) : IntKind.i64.wrap ((BitVec.ofInt 64 x).toNat : Int) = x := by
  rw [BitVec.toNat_ofInt, IntKind.wrap_i64]
  omega

theorem xor_xor (a b : Int) (h0 : -9223372036854775808 ≤ a) (h1 : a ≤ 9223372036854775807) : bits .xor .i64 (bits .xor .i64 a b) b = a := by
  show IntKind.i64.wrap ((BitVec.ofInt 64 (IntKind.i64.wrap ((BitVec.ofInt 64 a ^^^ BitVec.ofInt 64 b).toNat : Int)) ^^^ BitVec.ofInt 64 b).toNat : Int) = a
  rw [ofInt_wrap, BitVec.xor_assoc, BitVec.xor_self, BitVec.xor_zero, wrap_ofInt a h0 h1]

theorem two_pow_le {k : Nat} (hk : k ≤ 63) : (2 : Int) ^ k ≤ 9223372036854775808 := by
  have : (2 : Nat) ^ k ≤ 2 ^ 63 := Nat.pow_le_pow_right (by decide) hk
  have e : ((2 ^ k : Nat) : Int) = (2 : Int) ^ k := by simp
  omega

theorem mask (k : Nat) (hk : k ≤ 63) : wrap64 (wrap64 (2 ^ k) - 1) = 2 ^ k - 1 := by
  have h := two_pow_le hk
  have h0 := pow_pos64 k
  unfold wrap64
  omega

theorem and_mask (n : Int) (k : Nat) (hk : k ≤ 63) : bits .and .i64 (wrap64 (n * 2 ^ k)) (2 ^ k - 1) = 0 := by
  show IntKind.i64.wrap ((BitVec.ofInt 64 (wrap64 (n * 2 ^ k)) &&& BitVec.ofInt 64 (2 ^ k - 1)).toNat : Int) = 0
  have h := two_pow_le hk
  have h0 := pow_pos64 k
  have hd : (2 : Int) ^ k ∣ 18446744073709551616 := by
    refine ⟨2 ^ (64 - k), ?_⟩
    rw [← Int.pow_add, show k + (64 - k) = 64 by omega]
    decide
  have e1 : (BitVec.ofInt 64 (2 ^ k - 1)).toNat = 2 ^ k - 1 := by
    rw [BitVec.toNat_ofInt]
    have e : ((2 ^ k : Nat) : Int) = (2 : Int) ^ k := by simp
    omega
  have e2 : (BitVec.ofInt 64 (wrap64 (n * 2 ^ k))).toNat % 2 ^ k = 0 := by
    rw [BitVec.toNat_ofInt]
    have e : ((2 ^ k : Nat) : Int) = (2 : Int) ^ k := by simp
    have hm : (wrap64 (n * 2 ^ k) % ((2 ^ 64 : Nat) : Int)) % 2 ^ k = 0 := by
      have : (wrap64 (n * 2 ^ k) % ((2 ^ 64 : Nat) : Int)) = (n * 2 ^ k) % 18446744073709551616 := wrap64_mod _
      rw [this, Int.emod_emod_of_dvd _ hd]
      exact Int.mul_emod_left n (2 ^ k)
    have hnn : 0 ≤ wrap64 (n * 2 ^ k) % ((2 ^ 64 : Nat) : Int) := by omega
    have := Int.toNat_emod hnn (Int.le_of_lt h0)
    rw [hm, ← e, Int.toNat_natCast] at this
    exact this.symm
  rw [BitVec.toNat_and, e1, Nat.and_two_pow_sub_one_eq_mod, e2]
  rfl

theorem shift_back (n k : Int) (h0 : 0 ≤ k) (h1 : k ≤ 63) : fitV n (64 - k) = wrap64 (n * 2 ^ k.toNat) / 2 ^ k.toNat := by
  unfold fitV
  rw [if_neg (by omega), show (64 - (64 - k)).toNat = k.toNat by omega]
end Go.Proofs.YtdlkkflenphkfabDoor
