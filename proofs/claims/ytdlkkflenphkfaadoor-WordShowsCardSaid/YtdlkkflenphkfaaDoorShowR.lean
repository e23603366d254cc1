/- gradusref01.Show by a contract: the digits, as strconv writes them. -/
import Derived.Test.YtdlkkflenphkfaaDoorFns
import Derived.Test.YtdlkkflenphkfaaDoorDecV
import Derived.Test.YtdlkkflenphkfaaDoorAwake
import Derived.LoopTactic
import Derived.Lib.ItoaLen
namespace Go.Proofs.YtdlkkflenphkfaaDoor
open Go.RowKit

/-- The digits of a number, none of nought. -/
def dd (u : Nat) : List UInt8 := if u = 0 then [] else Lib.decDigits u

theorem dd_step (u : Nat) (h : u ≠ 0) : dd u = dd (u / 10) ++ [UInt8.ofNat (48 + u % 10)] := by
  unfold dd
  rw [if_neg h, Lib.decDigits]
  by_cases h10 : u < 10
  · rw [dif_pos h10, if_pos (by omega), show u % 10 = u by omega]
    rfl
  · rw [dif_neg h10, if_neg (by omega)]

theorem conv_one (W : World) (x : Int) : (convert 34 9 (.slice (some ⟨W.heap.size, 0, none⟩) 1 1)).run Tryd.prog (W.alloc (.cells #[.int .u8 x] 5)) = .ok (.string (strOfNums [x])) (W.alloc (.cells #[.int .u8 x] 5)) := by
  refine run_convert_bytes_arg _ 34 5 Tryd.underlying34 Tryd.underlying5 W.heap.size 0 1 1 [x] rfl ?_ 9 Tryd.underlying9
  intro i hi
  obtain rfl : i = 0 := by omega
  simp

theorem add_str (x : Int) (l : List UInt8) : strOfNums [x] ++ { data := l.toArray } = { data := (UInt8.ofNat x.toNat :: l).toArray } := by
  apply ByteArray.ext
  rw [ByteArray.data_append]
  simp [strOfNums]

theorem str_size (x : Int) (l : List UInt8) (h : l.length ≤ 20) : ¬ 9223372036854775807 < (strOfNums [x]).size + l.length := by
  rw [strOfNums_size]
  simp only [List.length_cons, List.length_nil]
  omega

theorem dd_len {u : Nat} (h : u < 18446744073709551616) : (dd u).length ≤ 20 := by
  unfold dd
  split
  · simp
  · rw [Lib.decDigits_length]
    exact Lib.nDigits_le20 u h

theorem dd_rest {n u : Nat} {l : List UInt8} (hn : n < 18446744073709551616) (h : dd n = dd u ++ l) : l.length ≤ 20 := by
  have h1 := dd_len hn
  rw [h, List.length_append] at h1
  omega

theorem ret_str {x y : ByteArray} (h : x = y) : Ending.returned (.string x) = .returned (.string y) := by rw [h]

theorem tneg (u : Int) (h : u ≤ 0) : u.tmod 10 = -((u.natAbs % 10 : Nat) : Int) ∧ u.tdiv 10 = -((u.natAbs / 10 : Nat) : Int) := by
  obtain ⟨v, rfl⟩ : ∃ v : Nat, u = -(v : Int) := ⟨u.natAbs, by omega⟩
  rw [Int.neg_tmod, Int.neg_tdiv, Int.natAbs_neg, Int.natAbs_natCast]
  exact ⟨rfl, rfl⟩

theorem minus_str (l : List UInt8) : ({ data := #[45] } : ByteArray) ++ { data := l.toArray } = { data := (45 :: l).toArray } := by
  apply ByteArray.ext
  rw [ByteArray.data_append]
  simp

theorem minus_size (l : List UInt8) (h : l.length ≤ 20) : ¬ 9223372036854775807 < 1 + l.length := by omega

set_option maxRecDepth 100000 in
theorem showR_pos (n : Int) (hn : 0 < n) (hn1 : n ≤ 9223372036854775807) (w : World) : Calls Tryd.prog 15 #[.int .i64 n] w fun e w' => e = .returned (.string ⟨(dd n.natAbs).toArray⟩) ∧ Below w.heap.size w w' := by
  have hcv := conv_one
  have hz : (n == 0) = false := by simp; omega
  go_enter Tryd.func15, Tryd.ntmps15
  go_wp2
  go_loopw [0, 4] (fun t s wr => ∃ (u : Int) (l : List UInt8), t = .int .i64 u ∧ s = .string ⟨l.toArray⟩ ∧ 0 ≤ u ∧ u ≤ 9223372036854775807 ∧ dd n.natAbs = dd u.natAbs ++ l ∧ Below w.heap.size w wr) (fun t _ _ => (intOf t).natAbs)
  case atStart => exact ⟨n, [], rfl, rfl, by omega, hn1, by simp, Below.refl _ _⟩
  case round =>
    obtain ⟨u, l, rfl, rfl, hu0, hu1, hd, hB⟩ := hrel
    have hl := str_size (48 + u % 10) l (dd_rest (by omega) hd)
    have HD := hideP hd
    clear hd
    by_cases hu : u = 0
    · have hu2 : (u != 0) = false := by simpa using hu
      have HU := hideP hu
      clear hu
      go_wp2
      go_ret
      refine ⟨ret_str ?_, hB⟩
      rw [HD.out, HU.out]
      rfl
    · have hu2 : (u != 0) = true := by simpa using hu
      have hu3 : 0 < u := by omega
      have hs := hB.size
      go_wp2
      go_roundw
      case rel => exact ⟨u / 10, UInt8.ofNat (48 + u % 10).toNat :: l, rfl, by rw [add_str], by omega, by omega, by
        rw [HD.out, dd_step u.natAbs (by omega), show (u / 10).natAbs = u.natAbs / 10 by omega, show (48 + u % 10).toNat = 48 + u.natAbs % 10 by omega]
        simp, hB.alloc hs _⟩
      case measure => simp [intOf]; omega

set_option maxRecDepth 100000 in
theorem showR_neg (n : Int) (hn : n < 0) (hn0 : -9223372036854775808 ≤ n) (w : World) : Calls Tryd.prog 15 #[.int .i64 n] w fun e w' => e = .returned (.string ⟨(45 :: dd n.natAbs).toArray⟩) ∧ Below w.heap.size w w' := by
  have hcv := conv_one
  have hz : (n == 0) = false := by simp; omega
  go_enter Tryd.func15, Tryd.ntmps15
  go_wp2
  go_loopw [0, 4] (fun t s wr => ∃ (u : Int) (l : List UInt8), t = .int .i64 u ∧ s = .string ⟨l.toArray⟩ ∧ u ≤ 0 ∧ -9223372036854775808 ≤ u ∧ dd n.natAbs = dd u.natAbs ++ l ∧ Below w.heap.size w wr) (fun t _ _ => (intOf t).natAbs)
  case atStart => exact ⟨n, [], rfl, rfl, by omega, hn0, by simp, Below.refl _ _⟩
  case round =>
    obtain ⟨u, l, rfl, rfl, hu0, hu1, hd, hB⟩ := hrel
    have hr := dd_rest (by omega) hd
    have HD := hideP hd
    clear hd
    by_cases hu : u = 0
    · have hu2 : (u != 0) = false := by simpa using hu
      have HU := hideP hu
      clear hu
      go_wp2
      go_ret
      refine ⟨ret_str ?_, hB⟩
      rw [HD.out, HU.out]
      exact minus_str l
    · have hu2 : (u != 0) = true := by simpa using hu
      have hu3 : u < 0 := by omega
      have hs := hB.size
      have htn := tneg u hu0
      obtain ⟨r, hr1⟩ : ∃ r, u.tmod 10 = r := ⟨_, rfl⟩
      obtain ⟨q, hq1⟩ : ∃ q, u.tdiv 10 = q := ⟨_, rfl⟩
      rw [hr1, hq1] at htn
      obtain ⟨hr2, hq2⟩ := htn
      have hr3 : -9 ≤ r := by omega
      have hr4 : r ≤ 0 := by omega
      have hq3 : -9223372036854775808 ≤ q := by omega
      have hq4 : q ≤ 0 := by omega
      have hq5 : q.natAbs < u.natAbs := by omega
      have F := hideP (show q.natAbs = u.natAbs / 10 ∧ (48 + -r).toNat = 48 + u.natAbs % 10 ∧ (0 ≤ r → 48 + r = 48 + -r) by omega)
      have HR := hideP hr
      clear hr2 hq2 hr
      by_cases hr0 : r < 0
      · have hl := str_size (48 + -r) l HR.out
        go_wp2
        go_roundw
        case rel => exact ⟨q, UInt8.ofNat (48 + -r).toNat :: l, rfl, by rw [add_str], hq4, hq3, by
          rw [HD.out, dd_step u.natAbs (by omega), F.out.1, F.out.2.1]
          simp, hB.alloc hs _⟩
        case measure => simp [intOf]; omega
      · have hl := str_size (48 + r) l HR.out
        go_wp2
        go_roundw
        case rel => exact ⟨q, UInt8.ofNat (48 + r).toNat :: l, rfl, by rw [add_str], hq4, hq3, by
          rw [HD.out, dd_step u.natAbs (by omega), F.out.1, F.out.2.2 (by omega), F.out.2.1]
          simp, hB.alloc hs _⟩
        case measure => simp [intOf]; omega

theorem showR_c (n : Int) (h0 : -9223372036854775808 ≤ n) (h1 : n ≤ 9223372036854775807) (w : World) : Calls Tryd.prog 15 #[.int .i64 n] w fun e w' => e = .returned (.string ⟨(Lib.itoa n).toArray⟩) ∧ Below w.heap.size w w' := by
  rcases Int.lt_trichotomy n 0 with hn | hn | hn
  · have h := showR_neg n hn h0 w
    have e : Lib.itoa n = 45 :: dd n.natAbs := by rw [Lib.itoa, if_pos hn, dd, if_neg (by omega)]
    rw [e]
    exact h
  · subst hn
    have e : Lib.itoa 0 = [48] := by simp [Lib.itoa, Lib.decDigits]
    rw [e]
    go_enter Tryd.func15, Tryd.ntmps15
    go_wp2
    go_ret
    exact ⟨rfl, Below.refl _ _⟩
  · have h := showR_pos n hn h1 w
    have e : Lib.itoa n = dd n.natAbs := by rw [Lib.itoa, if_neg (by omega), dd, if_neg (by omega), show n.toNat = n.natAbs by omega]
    rw [e]
    exact h
end Go.Proofs.YtdlkkflenphkfaaDoor
