/- The number that a text says, without a program in sight. -/
import Derived.WalkKit
namespace Go.Proofs.YtmpcjcjacpjilaaDoor

/-- The digits of a text, from the left, behind the number so far; none where one is no digit or the number would pass 2^63 - 1. -/
def parseGo : List UInt8 → Int → Option Int
  | [], n => some n
  | d :: r, n => if (d.toNat : Int) < 48 ∨ 57 < (d.toNat : Int) then none else if (9223372036854775807 - ((d.toNat : Int) - 48)) / 10 < n then none else parseGo r (n * 10 + ((d.toNat : Int) - 48))

def parseV (l : List UInt8) : Option Int :=
  match l with
  | [] => none
  | d :: r => if (d.toNat : Int) = 48 ∧ r ≠ [] then none else parseGo (d :: r) 0

theorem byteArray_len (s : ByteArray) : s.data.toList.length = s.size := Array.length_toList

theorem byteArray_drop (s : ByteArray) (k : Nat) (hk : k < s.size) : s.data.toList.drop k = s[k] :: s.data.toList.drop (k + 1) := by
  have h : k < s.data.toList.length := by rw [byteArray_len]; exact hk
  rw [List.drop_eq_getElem_cons h]
  rfl

theorem parseGo_bad {s : ByteArray} {k : Nat} (hk : k < s.size) (n : Int) (h : (s[k].toNat : Int) < 48 ∨ 57 < (s[k].toNat : Int)) : parseGo (s.data.toList.drop k) n = none := by
  rw [byteArray_drop s k hk, parseGo, if_pos h]

theorem parseGo_over {s : ByteArray} {k : Nat} (hk : k < s.size) (n : Int) (h : ¬ ((s[k].toNat : Int) < 48 ∨ 57 < (s[k].toNat : Int))) (h2 : (9223372036854775807 - ((s[k].toNat : Int) - 48)) / 10 < n) : parseGo (s.data.toList.drop k) n = none := by
  rw [byteArray_drop s k hk, parseGo, if_neg h, if_pos h2]

theorem parseGo_on {s : ByteArray} {k : Nat} (hk : k < s.size) (n : Int) (h : ¬ ((s[k].toNat : Int) < 48 ∨ 57 < (s[k].toNat : Int))) (h2 : ¬ (9223372036854775807 - ((s[k].toNat : Int) - 48)) / 10 < n) :
    parseGo (s.data.toList.drop k) n = parseGo (s.data.toList.drop (k + 1)) (n * 10 + ((s[k].toNat : Int) - 48)) := by
  rw [byteArray_drop s k hk, parseGo, if_neg h, if_neg h2]

theorem parseGo_end {s : ByteArray} {k : Nat} (hk : ¬ k < s.size) (n : Int) : parseGo (s.data.toList.drop k) n = some n := by
  rw [List.drop_eq_nil_of_le (by rw [byteArray_len]; omega), parseGo]

theorem parseV_empty {s : ByteArray} (h : s.size = 0) : parseV s.data.toList = none := by
  have : s.data.toList = [] := List.eq_nil_of_length_eq_zero (by rw [byteArray_len]; exact h)
  rw [this]
  rfl

theorem parseV_nought {s : ByteArray} (h0 : 0 < s.size) (h : (s[0].toNat : Int) = 48) (h1 : 1 < s.size) : parseV s.data.toList = none := by
  have e := byteArray_drop s 0 h0
  rw [List.drop_zero] at e
  rw [e, parseV, if_pos]
  refine ⟨h, fun hn => ?_⟩
  have h2 := congrArg List.length hn
  rw [List.length_drop, byteArray_len] at h2
  simp only [List.length_nil] at h2
  omega

theorem parseV_go {s : ByteArray} (h0 : 0 < s.size) (h : ¬ ((s[0].toNat : Int) = 48 ∧ 1 < s.size)) : parseV s.data.toList = parseGo s.data.toList 0 := by
  have e := byteArray_drop s 0 h0
  rw [List.drop_zero] at e
  rw [e, parseV, if_neg ?_]
  rintro ⟨h1, h2⟩
  apply h
  refine ⟨h1, ?_⟩
  have h3 : (List.drop (0 + 1) s.data.toList).length ≠ 0 := fun hh => h2 (List.eq_nil_of_length_eq_zero hh)
  rw [List.length_drop, byteArray_len] at h3
  omega

theorem toList_isEmpty (s : ByteArray) : s.toList.isEmpty = decide (s.size = 0) := by
  rw [ByteArray.toList_eq, ← byteArray_len]
  cases s.data.toList <;> simp

/-- What a call hands back of such a number. -/
def parsed (o : Option Int) : Value := .tuple #[.int .i64 (o.getD 0), .bool o.isSome]
end Go.Proofs.YtmpcjcjacpjilaaDoor
