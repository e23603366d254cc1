/- lex.Name by a contract, with what it calls. -/
import Derived.Test.YtmpcjcjacpjilaaDoorProg
import Derived.Test.YtmpcjcjacpjilaaDoorLexV
import Derived.KernelRfl
import Derived.WalkKit
import Derived.WalkLawsBesides
import Derived.LoopTactic
import Derived.OneCell
import Derived.Deep.QuietTactic
import Derived.BigQuiet
import Derived.Deep.MidRow
namespace Go.Proofs.YtmpcjcjacpjilaaDoor
open Go.RowKit

theorem hideP {p : Prop} (h : p) : Hid p := h

theorem ret_bool {x y : Bool} (h : x = y) : Ending.returned (.bool x) = .returned (.bool y) := by rw [h]

theorem startsName_c (b : UInt8) (w : World) : Calls Tryd.prog 101 #[.int .u8 b.toNat] w fun e w' => e = .returned (.bool (isLet b)) ∧ w' = w := by
  have hways : (b.toNat < 65) ∨ (65 ≤ b.toNat ∧ b.toNat ≤ 90) ∨ (90 < b.toNat ∧ b.toNat < 95) ∨ b.toNat = 95 ∨ b.toNat = 96 ∨ (97 ≤ b.toNat ∧ b.toNat ≤ 122) ∨ 122 < b.toNat := by omega
  unfold isLet
  generalize b.toNat = n at hways ⊢
  rcases hways with h | ⟨h1, h2⟩ | ⟨h1, h2⟩ | rfl | rfl | ⟨h1, h2⟩ | h
  · have e : ((n : Int) == 95) = false := by simp; omega
    go_enter Tryd.func101, Tryd.ntmps101
    go_wp2
    go_ret
    exact ⟨ret_bool (by first | rfl | (simp; done) | (simp; omega) | (rw [Bool.eq_iff_iff]; simp; omega)), rfl⟩
  · go_enter Tryd.func101, Tryd.ntmps101
    go_wp2
    go_ret
    exact ⟨ret_bool (by first | rfl | (simp; done) | (simp; omega) | (rw [Bool.eq_iff_iff]; simp; omega)), rfl⟩
  · have e : ((n : Int) == 95) = false := by simp; omega
    go_enter Tryd.func101, Tryd.ntmps101
    go_wp2
    go_ret
    exact ⟨ret_bool (by first | rfl | (simp; done) | (simp; omega) | (rw [Bool.eq_iff_iff]; simp; omega)), rfl⟩
  · go_enter Tryd.func101, Tryd.ntmps101
    go_wp2
    go_ret
    exact ⟨rfl, rfl⟩
  · go_enter Tryd.func101, Tryd.ntmps101
    go_wp2
    go_ret
    exact ⟨rfl, rfl⟩
  · go_enter Tryd.func101, Tryd.ntmps101
    go_wp2
    go_ret
    exact ⟨ret_bool (by first | rfl | (simp; done) | (simp; omega) | (rw [Bool.eq_iff_iff]; simp; omega)), rfl⟩
  · have e : ((n : Int) == 95) = false := by simp; omega
    go_enter Tryd.func101, Tryd.ntmps101
    go_wp2
    go_ret
    exact ⟨ret_bool (by first | rfl | (simp; done) | (simp; omega) | (rw [Bool.eq_iff_iff]; simp; omega)), rfl⟩

theorem isDigit_c (b : UInt8) (w : World) : Calls Tryd.prog 117 #[.int .u8 b.toNat] w fun e w' => e = .returned (.bool (isDig b)) ∧ w' = w := by
  have hways : (b.toNat < 48) ∨ (48 ≤ b.toNat ∧ b.toNat ≤ 57) ∨ 57 < b.toNat := by omega
  unfold isDig
  generalize b.toNat = n at hways ⊢
  rcases hways with h | ⟨h1, h2⟩ | h
  all_goals
    go_enter Tryd.func117, Tryd.ntmps117
    go_wp2
    go_ret
    exact ⟨ret_bool (by first | rfl | (simp; done) | (simp; omega) | (rw [Bool.eq_iff_iff]; simp; omega)), rfl⟩

theorem inName_c (b : UInt8) (w : World) : Calls Tryd.prog 103 #[.int .u8 b.toNat] w fun e w' => e = .returned (.bool (inNm b)) ∧ w' = w := by
  have s := startsName_c b
  have d := isDigit_c b
  unfold inNm
  cases h1 : isLet b
  · rw [h1] at s
    have S := hideP s
    have D := hideP d
    clear h1 s d
    go_enter Tryd.func103, Tryd.ntmps103
    go_wp2_with fail
    refine (S.out _).mono ?_
    rintro e w' ⟨rfl, rfl⟩
    go_wp2_with fail
    refine (D.out _).mono ?_
    rintro e w' ⟨rfl, rfl⟩
    go_wp2
    go_ret
    exact ⟨rfl, rfl⟩
  · rw [h1] at s
    have S := hideP s
    clear h1 s d
    go_enter Tryd.func103, Tryd.ntmps103
    go_wp2_with fail
    refine (S.out _).mono ?_
    rintro e w' ⟨rfl, rfl⟩
    go_wp2
    go_ret
    exact ⟨rfl, rfl⟩

/-- The end of the longest row of bytes that belong, from k on. -/
def rowV (s : ByteArray) (k : Nat) (p : UInt8 → Bool) : Nat := k + ((s.data.toList.drop k).takeWhile p).length

theorem rowV_le (s : ByteArray) (k : Nat) (p : UInt8 → Bool) (hk : k ≤ s.size) : rowV s k p ≤ s.size := by
  unfold rowV
  have h : ((s.data.toList.drop k).takeWhile p).length ≤ (s.data.toList.drop k).length := (List.takeWhile_sublist p).length_le
  rw [List.length_drop, byteArray_len] at h
  omega

theorem rowV_on {s : ByteArray} {k : Nat} {p : UInt8 → Bool} (hk : k < s.size) (h : p s[k] = true) : rowV s k p = rowV s (k + 1) p := by
  unfold rowV
  rw [byteArray_drop s k hk, List.takeWhile_cons_of_pos h, List.length_cons]
  omega

theorem rowV_off {s : ByteArray} {k : Nat} {p : UInt8 → Bool} (hk : k < s.size) (h : p s[k] = false) : rowV s k p = k := by
  unfold rowV
  rw [byteArray_drop s k hk, List.takeWhile_cons_of_neg (by rw [h]; decide)]
  rfl

theorem rowV_end {s : ByteArray} {k : Nat} {p : UInt8 → Bool} (hk : ¬ k < s.size) : rowV s k p = k := by
  unfold rowV
  rw [List.drop_eq_nil_of_le (by rw [byteArray_len]; omega)]
  rfl

set_option maxRecDepth 100000 in
theorem rowEnd_name (s : ByteArray) (hs : s.size ≤ 140737488351232) (k : Nat) (hk : k ≤ s.size) (w : World) :
    Calls Tryd.prog 102 #[.string s, .int .i64 k, .func (.func 103) #[] #[]] w fun e w' => e = .returned (.int .i64 (rowV s k inNm)) ∧ w' = w := by
  go_enter Tryd.func102, Tryd.ntmps102
  go_wp2
  go_loop [7] (fun i => ∃ m : Nat, m ≤ s.size ∧ i = .int .i64 m ∧ rowV s k inNm = rowV s m inNm) (fun i => s.size - (intOf i).toNat)
  case atStart => exact ⟨k, hk, rfl, rfl⟩
  case round =>
    obtain ⟨m, hm, rfl, hrow⟩ := hrel
    have HR := hideP hrow
    clear hrow
    by_cases hlt : m < s.size
    · have hc := inName_c s[m]
      have hyes := rowV_on (p := inNm) hlt
      have hno := rowV_off (p := inNm) hlt
      cases hp : inNm s[m]
      · rw [hp] at hc
        have E := hideP (hno hp)
        have HC := hideP hc
        clear hyes hno hp hc
        go_wp2_with fail
        refine (HC.out _).mono ?_
        rintro e w' ⟨rfl, rfl⟩
        go_wp2
        go_ret
        rw [HR.out, E.out]
        exact ⟨rfl, rfl⟩
      · rw [hp] at hc
        have E := hideP (hyes hp)
        have HC := hideP hc
        clear hyes hno hp hc
        go_wp2_with fail
        refine (HC.out _).mono ?_
        rintro e w' ⟨rfl, rfl⟩
        go_wp2
        go_round
        case rel => exact ⟨m + 1, by omega, by go_num, HR.out.trans E.out⟩
        case measure => simp [intOf]; omega
    · go_wp2
      go_ret
      rw [HR.out, rowV_end hlt]
      exact ⟨rfl, rfl⟩


/-- The word with this number. -/
def wordB (i : Nat) : ByteArray := ⟨(wordsV.getD i []).toArray⟩

/-- The table of words lies where the package reads it. -/
def Words (w : World) : Prop := ∀ i, i < 25 → w.cell? ⟨6, i, none⟩ = some (.string (wordB i))

theorem Words.lt {w : World} (h : Words w) : 6 < w.heap.size := World.block_lt_of_cell? w _ (h 0 (by decide))

theorem Words.below {w w' : World} (h : Words w) (hb : Below w.heap.size w w') : Words w' := fun i hi => (hb.cell (show 6 < w.heap.size from h.lt)).trans (h i hi)

theorem Words.grown {w w' : World} {row : Option Nat} (h : Words w) (hg : w.grownBy w' row) (hr : some 6 ≠ row) : Words w' := fun i hi => hg.cell (h i hi) hr

/-- The table's cells. -/
def wordsA : List Value := (List.range 25).map fun i => .string (wordB i)

theorem words_at (i : Nat) (hi : i < 25) : wordsA[i]? = some (.string (wordB i)) := by simp [wordsA, hi]

theorem Words.range {w : World} (h : Words w) : w.rangeAt 6 0 wordsA := by
  intro j v hv
  have hj : j < 25 := by
    have := (List.getElem?_eq_some_iff.1 hv).1
    simpa [wordsA] using this
  rw [words_at j hj] at hv
  injection hv with hv
  rw [← hv, Nat.zero_add]
  exact h j hj

theorem words_size : (Tryd.prog.info? 139).map (·.size) = some wordsA.length := by kernel_rfl

/-- No word up to here is it. -/
def noWord (s : ByteArray) (k : Nat) : Prop := ∀ i, i < k → s ≠ wordB i

theorem words_mem (s : ByteArray) : wordsV.contains s.data.toList = true ↔ ∃ i, i < 25 ∧ s = wordB i := by
  rw [List.contains_iff_mem]
  constructor
  · intro h
    obtain ⟨i, hi, e⟩ := List.mem_iff_getElem.1 h
    refine ⟨i, hi, ?_⟩
    unfold wordB
    rw [List.getD_eq_getElem?_getD, List.getElem?_eq_getElem hi, Option.getD_some, e]
  · rintro ⟨i, hi, e⟩
    rw [e]
    unfold wordB
    rw [List.getD_eq_getElem?_getD, List.getElem?_eq_getElem (show i < wordsV.length from hi), Option.getD_some]
    exact List.getElem_mem ..

theorem str_eq {s t : ByteArray} : (s.toList == t.toList) = true ↔ s = t := by
  rw [ByteArray.toList_eq, ByteArray.toList_eq, beq_iff_eq]
  constructor
  · intro h
    cases s; cases t
    simp at h
    rw [h]
  · rintro rfl; rfl

theorem str_ne {s t : ByteArray} (h : (s.toList == t.toList) = false) : s ≠ t := fun e => by
  rw [str_eq.2 e] at h
  cases h

theorem words_index {A : List Value} {k : Nat} {t : ByteArray} (hk : k < 25) (h : A[k]? = some (.string t)) (w : World) :
    (Instr.index 139 (.agg A.toArray) (.int .i64 k)).run Tryd.prog w = .ok (.string t) w := by
  have hu := Tryd.underlying139
  have ha := Tryd.isAgg9
  have hz := Tryd.sizeOf9
  simp [Instr.index, asIntOf, run_underlying hu, part, ha, hz, Result.andThen, hk]
  rw [h]
  rfl

set_option maxRecDepth 100000 in
theorem isWord_c (s : ByteArray) (w : World) (hw : Words w) :
    Calls Tryd.prog 104 #[.string s] w fun e w' => e = .returned (.bool (wordsV.contains s.data.toList)) ∧ w' = w := by
  obtain ⟨b, hb⟩ : ∃ b, b = wordsV.contains s.data.toList := ⟨_, rfl⟩
  rw [← hb]
  have HB := hideP hb
  clear hb
  have hr := hideP hw.range
  obtain ⟨A, hA⟩ : ∃ A, A = wordsA := ⟨_, rfl⟩
  have hat := words_at
  have hsz := words_size
  rw [← hA] at hr hat hsz
  clear hA hw
  have HA := hideP hat
  clear hat
  go_enter Tryd.func104, Tryd.ntmps104
  go_wp2_with (refine wpList_load_mid rfl 139 (.global 6) rfl 6 0 rfl A (.array 25 9) hr.out Tryd.underlying139 rfl hsz ?_)
  go_loop [6] (fun i => ∃ k : Nat, k ≤ 25 ∧ i = .int .i64 k ∧ Hid (noWord s k)) (fun i => 25 - (intOf i).toNat)
  case atStart => exact ⟨0, by omega, rfl, fun i hi => by omega⟩
  case round =>
    obtain ⟨k, hk, rfl, hno⟩ := hrel
    by_cases hlt : k < 25
    · have hAk := HA.out k hlt
      obtain ⟨t, ht⟩ : ∃ t, t = wordB k := ⟨_, rfl⟩
      rw [← ht] at hAk
      have hix := words_index hlt hAk w
      clear hAk
      have HT := hideP ht
      clear ht
      cases hq : (s.toList == t.toList)
      · have hno' : Hid (noWord s (k + 1)) := fun i hi => by
          by_cases hik : i = k
          · subst hik; rw [← HT.out]; exact str_ne hq
          · exact hno.out i (by omega)
        go_wp2
        go_round
        case rel => exact ⟨k + 1, by omega, by go_num, hno'⟩
        case measure => simp [intOf]; omega
      · have e : b = true := by
          rw [HB.out]
          exact (words_mem s).2 ⟨k, hlt, (str_eq.1 hq).trans HT.out⟩
        subst e
        go_wp2
        go_ret
        exact ⟨rfl, rfl⟩
    · have e : b = false := by
        rw [HB.out, Bool.eq_false_iff]
        intro h
        obtain ⟨i, hi, e⟩ := (words_mem s).1 h
        exact hno.out i (by omega) e
      subst e
      go_wp2
      go_ret
      exact ⟨rfl, rfl⟩

theorem nameV_empty {S : ByteArray} (h : S.size = 0) : nameV S.data.toList = false := by
  have : S.data.toList = [] := List.eq_nil_of_length_eq_zero (by rw [byteArray_len]; exact h)
  rw [this]
  rfl

theorem nameV_cons {S : ByteArray} (h : 0 < S.size) : nameV S.data.toList = (decide (S.size ≤ 32) && isLet S[0] && S.data.toList.all inNm && !wordsV.contains S.data.toList) := by
  have e := byteArray_drop S 0 h
  rw [List.drop_zero] at e
  have hl := byteArray_len S
  rw [e] at hl
  conv => lhs; rw [e]
  rw [nameV, hl, ← e]

theorem row_all (S : ByteArray) (p : UInt8 → Bool) : (rowV S 0 p = S.size) ↔ S.data.toList.all p = true := by
  unfold rowV
  rw [List.drop_zero, ← byteArray_len, Nat.zero_add]
  generalize S.data.toList = l
  induction l with
  | nil => simp
  | cons b r ih =>
    by_cases h : p b = true
    · rw [List.takeWhile_cons_of_pos h]
      simp [h, ← ih]
    · rw [List.takeWhile_cons_of_neg h]
      simp [h]

set_option maxHeartbeats 1000000 in
theorem name_c (S : ByteArray) (hS : S.size ≤ 140737488351232) (w : World) (hw : Words w) : Calls Tryd.prog 75 #[.string S] w fun e w' => e = .returned (.bool (nameV S.data.toList)) ∧ w' = w := by
  by_cases hz : S.size = 0
  · have he : S.toList.isEmpty = true := by rw [toList_isEmpty]; simp [hz]
    rw [nameV_empty hz]
    clear hw
    go_enter Tryd.func75, Tryd.ntmps75
    go_wp2
    go_ret
    exact ⟨rfl, rfl⟩
  have h0 : 0 < S.size := by omega
  have he : S.toList.isEmpty = false := by rw [toList_isEmpty]; simp [hz]
  rw [nameV_cons h0]
  by_cases hl : 32 < S.size
  · have hd : decide (S.size ≤ 32) = false := by simp; omega
    rw [hd]
    clear hd hw
    go_enter Tryd.func75, Tryd.ntmps75
    go_wp2
    go_ret
    exact ⟨rfl, rfl⟩
  have hd : decide (S.size ≤ 32) = true := by simp; omega
  rw [hd]
  clear hd hz
  have hst := startsName_c S[0]
  cases hb : isLet S[0]
  · rw [hb] at hst
    have HST := hideP hst
    clear hst hb hw
    simp only [Bool.and_false, Bool.false_and]
    go_enter Tryd.func75, Tryd.ntmps75
    go_wp2_with fail
    refine (HST.out _).mono ?_
    rintro e w' ⟨rfl, rfl⟩
    go_wp2
    go_ret
    exact ⟨rfl, rfl⟩
  rw [hb] at hst
  have HST := hideP hst
  have hrow := rowEnd_name S hS 0 (by omega)
  have hall := row_all S inNm
  have hwd := fun w h => isWord_c S w h
  have HW := hideP hw
  obtain ⟨r, hr⟩ : ∃ r, r = rowV S 0 inNm := ⟨_, rfl⟩
  rw [← hr] at hrow hall
  have HROW := hideP hrow
  have hrle : r ≤ S.size := by rw [hr]; exact rowV_le S 0 inNm (by omega)
  clear hst hb hrow hr hw
  cases ha : S.data.toList.all inNm
  · have hne : ((r : Int) == (S.size : Int)) = false := by
      have : r ≠ S.size := fun e => by rw [hall.1 e] at ha; cases ha
      simp
      omega
    clear hall ha hwd
    simp only [Bool.and_false, Bool.false_and]
    go_enter Tryd.func75, Tryd.ntmps75
    go_wp2_with fail
    refine (HST.out _).mono ?_
    rintro e w' ⟨rfl, rfl⟩
    go_wp2_with fail
    refine (HROW.out _).mono ?_
    rintro e w' ⟨rfl, rfl⟩
    go_wp2
    go_ret
    exact ⟨rfl, rfl⟩
  · have heq : ((r : Int) == (S.size : Int)) = true := by
      have := hall.2 ha
      simp
      omega
    cases hq : wordsV.contains S.data.toList
    · rw [hq] at hwd
      have HWD := hideP hwd
      clear hall ha hwd hq
      go_enter Tryd.func75, Tryd.ntmps75
      go_wp2_with fail
      refine (HST.out _).mono ?_
      rintro e w' ⟨rfl, rfl⟩
      go_wp2_with fail
      refine (HROW.out _).mono ?_
      rintro e w' ⟨rfl, rfl⟩
      go_wp2_with fail
      refine (HWD.out _ HW.out).mono ?_
      rintro e w' ⟨rfl, rfl⟩
      go_wp2
      go_ret
      exact ⟨rfl, rfl⟩
    · rw [hq] at hwd
      have HWD := hideP hwd
      clear hall ha hwd hq
      go_enter Tryd.func75, Tryd.ntmps75
      go_wp2_with fail
      refine (HST.out _).mono ?_
      rintro e w' ⟨rfl, rfl⟩
      go_wp2_with fail
      refine (HROW.out _).mono ?_
      rintro e w' ⟨rfl, rfl⟩
      go_wp2_with fail
      refine (HWD.out _ HW.out).mono ?_
      rintro e w' ⟨rfl, rfl⟩
      go_wp2
      go_ret
      exact ⟨rfl, rfl⟩
end Go.Proofs.YtmpcjcjacpjilaaDoor
