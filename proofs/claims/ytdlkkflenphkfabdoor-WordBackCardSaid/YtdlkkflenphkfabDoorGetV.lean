/- A number read from groups of seven bits, without a program in sight. -/
import Derived.Test.YtdlkkflenphkfabDoorPutV
namespace Go.Proofs.YtdlkkflenphkfabDoor
open Go.RowKit

/-- The groups from the left, at place i, behind the number so far: the number without a sign, and how many bytes; or none. -/
def getGo : List Int → Nat → Int → Option (Int × Nat)
  | [], _, _ => none
  | x :: r, i, u => if 10 ≤ i ∨ (i = 9 ∧ 1 < x) then none else if 128 ≤ x then getGo r (i + 1) (u + x % 128 * 128 ^ i) else if x = 0 ∧ 0 < i then none else some (u + x % 128 * 128 ^ i, i + 1)

def getV (l : List Int) : Option (Int × Nat) := getGo l 0 0

/-- What a call hands back of it. -/
def gotten : Option (Int × Nat) → Value
  | none => .tuple #[.int .i64 0, .int .i64 0]
  | some (u, k) => .tuple #[.int .i64 (unfoldV u), .int .i64 k]

theorem gotten_odd {v : Int} {k : Nat} (h : v % 2 = 1) : gotten (some (v, k)) = .tuple #[.int .i64 (-1 - v / 2), .int .i64 k] := by
  rw [gotten, unfoldV, if_pos h]

theorem gotten_even {v : Int} {k : Nat} (h : ¬ v % 2 = 1) : gotten (some (v, k)) = .tuple #[.int .i64 (v / 2), .int .i64 k] := by
  rw [gotten, unfoldV, if_neg h]

theorem getGo_end {r : List Int} {i : Nat} {u : Int} (h : 10 ≤ i ∨ r = []) : getGo r i u = none := by
  cases r with
  | nil => rfl
  | cons x r =>
    rw [getGo, if_pos]
    rcases h with h | h
    · exact Or.inl h
    · cases h

theorem getGo_tenth {x : Int} {r : List Int} {i : Nat} {u : Int} (h : i = 9) (hx : 1 < x) : getGo (x :: r) i u = none := by
  rw [getGo, if_pos (Or.inr ⟨h, hx⟩)]

theorem getGo_more {x : Int} {r : List Int} {i : Nat} {u : Int} (h : i < 9) (hx : 128 ≤ x) : getGo (x :: r) i u = getGo r (i + 1) (u + x % 128 * 128 ^ i) := by
  rw [getGo, if_neg (by omega), if_pos hx]

theorem getGo_nought {x : Int} {r : List Int} {i : Nat} {u : Int} (hi : 0 < i) (hx : x = 0) : getGo (x :: r) i u = none := by
  rw [getGo]
  split
  · rfl
  · rw [if_neg (by omega), if_pos ⟨hx, hi⟩]

theorem getGo_last {x : Int} {r : List Int} {i : Nat} {u : Int} (h : i ≤ 9) (h9 : i = 9 → x ≤ 1) (hx : x < 128) (h0 : ¬ (x = 0 ∧ 0 < i)) : getGo (x :: r) i u = some (u + x % 128 * 128 ^ i, i + 1) := by
  rw [getGo, if_neg (by omega), if_neg (by omega), if_neg h0]

theorem pow128 (k : Nat) : (128 : Int) ^ k = 2 ^ (7 * k) := by
  rw [Int.pow_mul]
  rfl

/-- Bits that do not meet are added. -/
theorem or_add (u v : Int) (j : Nat) (hu0 : 0 ≤ u) (hu1 : u < 2 ^ j) (hu2 : u < 18446744073709551616) (hv0 : 0 ≤ v) (hv1 : v * 2 ^ j < 18446744073709551616) : bits .or .u64 u (IntKind.u64.wrap (v * 2 ^ j)) = u + v * 2 ^ j := by
  have hp := pow_pos64 j
  have h0 : 0 ≤ v * 2 ^ j := Int.mul_nonneg hv0 (Int.le_of_lt hp)
  rw [IntKind.wrap_u64, Int.emod_eq_of_lt h0 hv1]
  obtain ⟨v, rfl⟩ := Int.eq_ofNat_of_zero_le hv0
  obtain ⟨u, rfl⟩ := Int.eq_ofNat_of_zero_le hu0
  have e : ((2 ^ j : Nat) : Int) = (2 : Int) ^ j := by simp
  rw [← e] at hu1 hv1 ⊢
  have e2 : ((v : Int) * ((2 ^ j : Nat) : Int)) = ((v * 2 ^ j : Nat) : Int) := by simp
  rw [e2] at hv1 ⊢
  have hu3 : u < 2 ^ j := by omega
  have hle : u < 18446744073709551616 := by omega
  rw [u64_or_nat _ _ hle (by omega)]
  have := Nat.shiftLeft_add_eq_or_of_lt hu3 v
  rw [Nat.shiftLeft_eq, Nat.or_comm] at this
  omega

theorem or_step (u x : Int) (k : Nat) (hu0 : 0 ≤ u) (hu1 : u < 128 ^ k) (hx0 : 0 ≤ x) (hk : k ≤ 9) (h9 : k = 9 → x ≤ 1) :
    ∃ v, bits .or .u64 u (IntKind.u64.wrap (x % 128 * 2 ^ (7 * k))) = v ∧ v = u + x % 128 * 128 ^ k ∧ 0 ≤ v ∧ v < 18446744073709551616 ∧ v < 128 ^ (k + 1) := by
  have hp : (0 : Int) < 128 ^ k := Int.pow_pos (by decide)
  have e1 : (128 : Int) ^ (k + 1) = 128 ^ k * 128 := Int.pow_succ 128 k
  have hm0 : 0 ≤ x % 128 := by omega
  have hm1 : x % 128 * 128 ^ k ≤ 127 * 128 ^ k := Int.mul_le_mul_of_nonneg_right (by omega) (Int.le_of_lt hp)
  have hm2 : 0 ≤ x % 128 * 128 ^ k := Int.mul_nonneg hm0 (Int.le_of_lt hp)
  have h64 : u + x % 128 * 128 ^ k < 18446744073709551616 := by
    by_cases h : k = 9
    · have hx := h9 h
      subst h
      have : (128 : Int) ^ 9 = 9223372036854775808 := by decide
      rw [this] at hu1 ⊢
      omega
    · have : (128 : Nat) ^ k ≤ 128 ^ 8 := Nat.pow_le_pow_right (by decide) (by omega)
      have e : ((128 ^ k : Nat) : Int) = (128 : Int) ^ k := by simp
      omega
  refine ⟨_, rfl, ?_⟩
  have := or_add u (x % 128) (7 * k) hu0 (by rw [← pow128]; exact hu1) (by omega) hm0 (by rw [← pow128]; omega)
  rw [this, ← pow128]
  exact ⟨rfl, by omega, h64, by omega⟩

theorem drop_at {l : List Int} {k : Nat} (h : k < l.length) : l.drop k = l.getD k 0 :: l.drop (k + 1) := by
  rw [List.drop_eq_getElem_cons h]
  simp [List.getD, h]

theorem byte_at {l : List Int} {k : Nat} (h : k < l.length) (hb : ∀ x ∈ l, 0 ≤ x ∧ x ≤ 255) : 0 ≤ l.getD k 0 ∧ l.getD k 0 ≤ 255 := by
  have : l.getD k 0 = l[k] := by simp [List.getD, h]
  rw [this]
  exact hb _ (List.getElem_mem h)

theorem drop_end {l : List Int} {k len : Nat} (hl : l.length = len) (h : ¬ (k < len ∧ k < 10)) : 10 ≤ k ∨ l.drop k = [] := by
  by_cases h10 : 10 ≤ k
  · exact Or.inl h10
  · exact Or.inr (List.drop_eq_nil_of_le (by omega))

theorem add_step (u x F : Int) (k : Nat) (hF : F = 128 ^ k) (hu0 : 0 ≤ u) (hu1 : u < 128 ^ k) (hx0 : 0 ≤ x) (hk : k ≤ 9) (h9 : k = 9 → x ≤ 1) :
    ∃ p v, IntKind.u64.wrap (x % 128 * F) = p ∧ IntKind.u64.wrap (u + p) = v ∧ v = u + x % 128 * 128 ^ k ∧ 0 ≤ v ∧ v < 18446744073709551616 ∧ v < 128 ^ (k + 1) ∧ 0 ≤ p ∧ u + p = v := by
  obtain ⟨v, _, hv, h0, h1, h2⟩ := or_step u x k hu0 hu1 hx0 hk h9
  have hp : (0 : Int) < 128 ^ k := Int.pow_pos (by decide)
  have hm2 : 0 ≤ x % 128 * 128 ^ k := Int.mul_nonneg (by omega) (Int.le_of_lt hp)
  subst hF
  refine ⟨x % 128 * 128 ^ k, v, ?_, ?_, hv, h0, h1, h2, hm2, hv.symm⟩
  · rw [IntKind.wrap_u64]
    exact Int.emod_eq_of_lt hm2 (by omega)
  · rw [IntKind.wrap_u64, ← hv]
    exact Int.emod_eq_of_lt h0 h1

theorem pow_next {F : Int} {k : Nat} (hF : F = 128 ^ k) (hk : k < 9) : 0 < F ∧ F ≤ 72057594037927936 ∧ F * 128 = 128 ^ (k + 1) := by
  have hp : (0 : Int) < 128 ^ k := Int.pow_pos (by decide)
  have : (128 : Nat) ^ k ≤ 128 ^ 8 := Nat.pow_le_pow_right (by decide) (by omega)
  have e : ((128 ^ k : Nat) : Int) = (128 : Int) ^ k := by simp
  have e1 : (128 : Int) ^ (k + 1) = 128 ^ k * 128 := Int.pow_succ 128 k
  subst hF
  exact ⟨hp, by omega, e1.symm⟩
end Go.Proofs.YtdlkkflenphkfabDoor
