/- lex.rowEnd by a contract: the end of the longest row of bytes that belong. -/
import Derived.Test.YtgoppgopnhmhfaaDoorBytes
namespace Go.Proofs.YtgoppgopnhmhfaaDoor
open Go.RowKit

/-- The end of the longest row of bytes that belong, from k on. -/
def rowV (s : ByteArray) (k : Nat) (p : UInt8 → Bool) : Nat := k + ((s.data.toList.drop k).takeWhile p).length

theorem rowV_le (s : ByteArray) (k : Nat) (p : UInt8 → Bool) (hk : k ≤ s.size) : rowV s k p ≤ s.size := by
  unfold rowV
  have h : ((s.data.toList.drop k).takeWhile p).length ≤ (s.data.toList.drop k).length := (List.takeWhile_sublist p).length_le
  rw [List.length_drop, byteArray_len] at h
  omega

theorem rowV_on {s : ByteArray} {k : Nat} {p : UInt8 → Bool} (hk : k < s.size) (h : p s[k] = true) : rowV s k p = rowV s (k + 1) p := by
  unfold rowV
  rw [byteArray_drop s k hk, List.takeWhile_cons_of_pos h, List.length_cons]
  omega

theorem rowV_off {s : ByteArray} {k : Nat} {p : UInt8 → Bool} (hk : k < s.size) (h : p s[k] = false) : rowV s k p = k := by
  unfold rowV
  rw [byteArray_drop s k hk, List.takeWhile_cons_of_neg (by rw [h]; decide)]
  rfl

theorem rowV_end {s : ByteArray} {k : Nat} {p : UInt8 → Bool} (hk : ¬ k < s.size) : rowV s k p = k := by
  unfold rowV
  rw [List.drop_eq_nil_of_le (by rw [byteArray_len]; omega)]
  rfl

set_option maxRecDepth 100000 in
theorem rowEnd_name (s : ByteArray) (hs : s.size ≤ 140737488351232) (k : Nat) (hk : k ≤ s.size) (w : World) :
    Calls Tryd.prog 26 #[.string s, .int .i64 k, .func (.func 27) #[] #[]] w fun e w' => e = .returned (.int .i64 (rowV s k inNm)) ∧ w' = w := by
  go_enter Tryd.func26, Tryd.ntmps26
  go_wp2
  go_loop [7] (fun i => ∃ m : Nat, m ≤ s.size ∧ i = .int .i64 m ∧ rowV s k inNm = rowV s m inNm) (fun i => s.size - (intOf i).toNat)
  case atStart => exact ⟨k, hk, rfl, rfl⟩
  case round =>
    obtain ⟨m, hm, rfl, hrow⟩ := hrel
    have HR := hideP hrow
    clear hrow
    by_cases hlt : m < s.size
    · have hc := inName_c s[m]
      have hyes := rowV_on (p := inNm) hlt
      have hno := rowV_off (p := inNm) hlt
      cases hp : inNm s[m]
      · rw [hp] at hc
        have E := hideP (hno hp)
        have HC := hideP hc
        clear hyes hno hp hc
        go_wp2_with fail
        refine (HC.out _).mono ?_
        rintro e w' ⟨rfl, rfl⟩
        go_wp2
        go_ret
        rw [HR.out, E.out]
        exact ⟨rfl, rfl⟩
      · rw [hp] at hc
        have E := hideP (hyes hp)
        have HC := hideP hc
        clear hyes hno hp hc
        go_wp2_with fail
        refine (HC.out _).mono ?_
        rintro e w' ⟨rfl, rfl⟩
        go_wp2
        go_round
        case rel => exact ⟨m + 1, by omega, by go_num, HR.out.trans E.out⟩
        case measure => simp [intOf]; omega
    · go_wp2
      go_ret
      rw [HR.out, rowV_end hlt]
      exact ⟨rfl, rfl⟩
set_option maxRecDepth 100000 in
theorem rowEnd_digit (s : ByteArray) (hs : s.size ≤ 140737488351232) (k : Nat) (hk : k ≤ s.size) (w : World) :
    Calls Tryd.prog 26 #[.string s, .int .i64 k, .func (.func 35) #[] #[]] w fun e w' => e = .returned (.int .i64 (rowV s k isDig)) ∧ w' = w := by
  go_enter Tryd.func26, Tryd.ntmps26
  go_wp2
  go_loop [7] (fun i => ∃ m : Nat, m ≤ s.size ∧ i = .int .i64 m ∧ rowV s k isDig = rowV s m isDig) (fun i => s.size - (intOf i).toNat)
  case atStart => exact ⟨k, hk, rfl, rfl⟩
  case round =>
    obtain ⟨m, hm, rfl, hrow⟩ := hrel
    have HR := hideP hrow
    clear hrow
    by_cases hlt : m < s.size
    · have hc := isDigit_c s[m]
      have hyes := rowV_on (p := isDig) hlt
      have hno := rowV_off (p := isDig) hlt
      cases hp : isDig s[m]
      · rw [hp] at hc
        have E := hideP (hno hp)
        have HC := hideP hc
        clear hyes hno hp hc
        go_wp2_with fail
        refine (HC.out _).mono ?_
        rintro e w' ⟨rfl, rfl⟩
        go_wp2
        go_ret
        rw [HR.out, E.out]
        exact ⟨rfl, rfl⟩
      · rw [hp] at hc
        have E := hideP (hyes hp)
        have HC := hideP hc
        clear hyes hno hp hc
        go_wp2_with fail
        refine (HC.out _).mono ?_
        rintro e w' ⟨rfl, rfl⟩
        go_wp2
        go_round
        case rel => exact ⟨m + 1, by omega, by go_num, HR.out.trans E.out⟩
        case measure => simp [intOf]; omega
    · go_wp2
      go_ret
      rw [HR.out, rowV_end hlt]
      exact ⟨rfl, rfl⟩
set_option maxRecDepth 100000 in
theorem rowEnd_lf (s : ByteArray) (hs : s.size ≤ 140737488351232) (k : Nat) (hk : k ≤ s.size) (w : World) :
    Calls Tryd.prog 26 #[.string s, .int .i64 k, .func (.func 33) #[] #[]] w fun e w' => e = .returned (.int .i64 (rowV s k notLf)) ∧ w' = w := by
  go_enter Tryd.func26, Tryd.ntmps26
  go_wp2
  go_loop [7] (fun i => ∃ m : Nat, m ≤ s.size ∧ i = .int .i64 m ∧ rowV s k notLf = rowV s m notLf) (fun i => s.size - (intOf i).toNat)
  case atStart => exact ⟨k, hk, rfl, rfl⟩
  case round =>
    obtain ⟨m, hm, rfl, hrow⟩ := hrel
    have HR := hideP hrow
    clear hrow
    by_cases hlt : m < s.size
    · have hc := notLf_c s[m]
      have hyes := rowV_on (p := notLf) hlt
      have hno := rowV_off (p := notLf) hlt
      cases hp : notLf s[m]
      · rw [hp] at hc
        have E := hideP (hno hp)
        have HC := hideP hc
        clear hyes hno hp hc
        go_wp2_with fail
        refine (HC.out _).mono ?_
        rintro e w' ⟨rfl, rfl⟩
        go_wp2
        go_ret
        rw [HR.out, E.out]
        exact ⟨rfl, rfl⟩
      · rw [hp] at hc
        have E := hideP (hyes hp)
        have HC := hideP hc
        clear hyes hno hp hc
        go_wp2_with fail
        refine (HC.out _).mono ?_
        rintro e w' ⟨rfl, rfl⟩
        go_wp2
        go_round
        case rel => exact ⟨m + 1, by omega, by go_num, HR.out.trans E.out⟩
        case measure => simp [intOf]; omega
    · go_wp2
      go_ret
      rw [HR.out, rowV_end hlt]
      exact ⟨rfl, rfl⟩
end Go.Proofs.YtgoppgopnhmhfaaDoor
