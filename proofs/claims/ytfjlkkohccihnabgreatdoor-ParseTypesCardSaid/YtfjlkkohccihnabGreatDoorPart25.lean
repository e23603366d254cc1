/- Part of the proof of ParseTypes: the texts that follow, in build order. -/
import Derived.Test.YtfjlkkohccihnabGreatDoorPart17
import Derived.Test.YtfjlkkohccihnabGreatDoorPart24
import Derived.BigQuiet
import Derived.Test.YtfjlkkohccihnabGreatDoorPart15
import Derived.Test.YtfjlkkohccihnabGreatDoorPart16
import Derived.Test.YtfjlkkohccihnabGreatDoorPart1
import Derived.Test.YtfjlkkohccihnabGreatDoorPart10
import Derived.LoopTactic

/- lex.Name and lex.Words, each by a contract. -/
namespace Go.Proofs.YtfjlkkohccihnabGreatDoor.Lx
open Go.RowKit

theorem nameV_empty {S : ByteArray} (h : S.size = 0) : nameV S.data.toList = false := by
  have : S.data.toList = [] := List.eq_nil_of_length_eq_zero (by rw [byteArray_len]; exact h)
  rw [this]
  rfl

theorem nameV_cons {S : ByteArray} (h : 0 < S.size) : nameV S.data.toList = (decide (S.size ≤ 32) && isLet S[0] && S.data.toList.all inNm && !wordsV.contains S.data.toList) := by
  have e := byteArray_drop S 0 h
  rw [List.drop_zero] at e
  have hl := byteArray_len S
  rw [e] at hl
  conv => lhs; rw [e]
  rw [nameV, hl, ← e]

theorem row_all (S : ByteArray) (p : UInt8 → Bool) : (rowV S 0 p = S.size) ↔ S.data.toList.all p = true := by
  unfold rowV
  rw [List.drop_zero, ← byteArray_len, Nat.zero_add]
  generalize S.data.toList = l
  induction l with
  | nil => simp
  | cons b r ih =>
    by_cases h : p b = true
    · rw [List.takeWhile_cons_of_pos h]
      simp [h, ← ih]
    · rw [List.takeWhile_cons_of_neg h]
      simp [h]

set_option maxHeartbeats 1000000 in
theorem name_c (S : ByteArray) (hS : S.size ≤ 140737488351232) (w : World) (hw : Words w) : Calls Tryz.prog 128 #[.string S] w fun e w' => e = .returned (.bool (nameV S.data.toList)) ∧ w' = w := by
  by_cases hz : S.size = 0
  · have he : S.toList.isEmpty = true := by rw [toList_isEmpty]; simp [hz]
    rw [nameV_empty hz]
    clear hw
    go_enter Tryz.func128, Tryz.ntmps128
    go_wp2
    go_ret
    exact ⟨rfl, rfl⟩
  have h0 : 0 < S.size := by omega
  have he : S.toList.isEmpty = false := by rw [toList_isEmpty]; simp [hz]
  rw [nameV_cons h0]
  by_cases hl : 32 < S.size
  · have hd : decide (S.size ≤ 32) = false := by simp; omega
    rw [hd]
    clear hd hw
    go_enter Tryz.func128, Tryz.ntmps128
    go_wp2
    go_ret
    exact ⟨rfl, rfl⟩
  have hd : decide (S.size ≤ 32) = true := by simp; omega
  rw [hd]
  clear hd hz
  have hst := startsName_c S[0]
  cases hb : isLet S[0]
  · rw [hb] at hst
    have HST := hideP hst
    clear hst hb hw
    simp only [Bool.and_false, Bool.false_and]
    go_enter Tryz.func128, Tryz.ntmps128
    go_wp2_with fail
    refine (HST.out _).mono ?_
    rintro e w' ⟨rfl, rfl⟩
    go_wp2
    go_ret
    exact ⟨rfl, rfl⟩
  rw [hb] at hst
  have HST := hideP hst
  have hrow := rowEnd_name S hS 0 (by omega)
  have hall := row_all S inNm
  have hwd := fun w h => isWord_c S w h
  have HW := hideP hw
  obtain ⟨r, hr⟩ : ∃ r, r = rowV S 0 inNm := ⟨_, rfl⟩
  rw [← hr] at hrow hall
  have HROW := hideP hrow
  have hrle : r ≤ S.size := by rw [hr]; exact rowV_le S 0 inNm (by omega)
  clear hst hb hrow hr hw
  cases ha : S.data.toList.all inNm
  · have hne : ((r : Int) == (S.size : Int)) = false := by
      have : r ≠ S.size := fun e => by rw [hall.1 e] at ha; cases ha
      simp
      omega
    clear hall ha hwd
    simp only [Bool.and_false, Bool.false_and]
    go_enter Tryz.func128, Tryz.ntmps128
    go_wp2_with fail
    refine (HST.out _).mono ?_
    rintro e w' ⟨rfl, rfl⟩
    go_wp2_with fail
    refine (HROW.out _).mono ?_
    rintro e w' ⟨rfl, rfl⟩
    go_wp2
    go_ret
    exact ⟨rfl, rfl⟩
  · have heq : ((r : Int) == (S.size : Int)) = true := by
      have := hall.2 ha
      simp
      omega
    cases hq : wordsV.contains S.data.toList
    · rw [hq] at hwd
      have HWD := hideP hwd
      clear hall ha hwd hq
      go_enter Tryz.func128, Tryz.ntmps128
      go_wp2_with fail
      refine (HST.out _).mono ?_
      rintro e w' ⟨rfl, rfl⟩
      go_wp2_with fail
      refine (HROW.out _).mono ?_
      rintro e w' ⟨rfl, rfl⟩
      go_wp2_with fail
      refine (HWD.out _ HW.out).mono ?_
      rintro e w' ⟨rfl, rfl⟩
      go_wp2
      go_ret
      exact ⟨rfl, rfl⟩
    · rw [hq] at hwd
      have HWD := hideP hwd
      clear hall ha hwd hq
      go_enter Tryz.func128, Tryz.ntmps128
      go_wp2_with fail
      refine (HST.out _).mono ?_
      rintro e w' ⟨rfl, rfl⟩
      go_wp2_with fail
      refine (HROW.out _).mono ?_
      rintro e w' ⟨rfl, rfl⟩
      go_wp2_with fail
      refine (HWD.out _ HW.out).mono ?_
      rintro e w' ⟨rfl, rfl⟩
      go_wp2
      go_ret
      exact ⟨rfl, rfl⟩

end Go.Proofs.YtfjlkkohccihnabGreatDoor.Lx

/- The chapter's examples (graduslaw02.awake): the call returns true; nothing that was there has changed. -/
namespace Go.Proofs.YtfjlkkohccihnabGreatDoor.Lx
open Go.RowKit

theorem below_next {w w1 w2 : World} (h : Below w.heap.size w w1) (k : Below w1.heap.size w1 w2) : Below w.heap.size w w2 := h.trans (k.mono h.size)

theorem bl_alloc (w : World) (o : Obj) : Below w.heap.size w (w.alloc o) := (Below.refl _ w).alloc (Nat.le_refl _) o

/-- A Diag as a block. -/
def dgO (li co e : Int) : Obj := .cells #[.int .i64 0, .int .i64 li, .int .i64 co, .int .i64 e] 30

end Go.Proofs.YtfjlkkohccihnabGreatDoor.Lx

/- gradusref02.Words, word and Name, each by a contract. -/
namespace Go.Proofs.YtfjlkkohccihnabGreatDoor.Lx
open Go.RowKit

set_option maxRecDepth 100000 in
theorem wordsR_c (w : World) : Calls Tryz.prog 125 #[] w fun e w' => e = .returned (.slice (some ⟨w.heap.size, 0, none⟩) 25 25) ∧ Below w.heap.size w w' ∧ ∀ i, i < 25 → w'.cell? ⟨w.heap.size, i, none⟩ = some (.string (wordB i)) := by
  go_enter Tryz.func125, Tryz.ntmps125
  go_wp2
  go_ret
  refine ⟨rfl, bl_alloc w _, ?_⟩
  intro i hi
  rw [cell_of_row _ _ i _ _ (0, 0) (heap_alloc_last w _)]
  match i, hi with
  | 0, _ => rfl
  | 1, _ => rfl
  | 2, _ => rfl
  | 3, _ => rfl
  | 4, _ => rfl
  | 5, _ => rfl
  | 6, _ => rfl
  | 7, _ => rfl
  | 8, _ => rfl
  | 9, _ => rfl
  | 10, _ => rfl
  | 11, _ => rfl
  | 12, _ => rfl
  | 13, _ => rfl
  | 14, _ => rfl
  | 15, _ => rfl
  | 16, _ => rfl
  | 17, _ => rfl
  | 18, _ => rfl
  | 19, _ => rfl
  | 20, _ => rfl
  | 21, _ => rfl
  | 22, _ => rfl
  | 23, _ => rfl
  | 24, _ => rfl
  | n + 25, h => exact absurd h (by omega)

set_option maxHeartbeats 2000000 in
set_option maxRecDepth 100000 in
theorem wordR_c (s : ByteArray) (w : World) : Calls Tryz.prog 68 #[.string s] w fun e w' => e = .returned (.bool (wordsV.contains s.data.toList)) ∧ Below w.heap.size w w' := by
  obtain ⟨b, hb⟩ : ∃ b, b = wordsV.contains s.data.toList := ⟨_, rfl⟩
  rw [← hb]
  have HB := hideP hb
  clear hb
  go_enter Tryz.func68, Tryz.ntmps68
  go_wp2_with fail
  refine (wordsR_c _).mono ?_
  rintro e w1 ⟨rfl, hb1, hc⟩
  have HB1 := hideP hb1
  have HC := hideP hc
  clear hb1 hc
  go_wp2
  go_loop [4] (fun i => ∃ k : Nat, k ≤ 25 ∧ i = .int .i64 k ∧ Hid (noWord s k)) (fun i => 25 - (intOf i).toNat)
  case atStart => exact ⟨0, by omega, rfl, fun i hi => by omega⟩
  case round =>
    obtain ⟨k, hk, rfl, hno⟩ := hrel
    by_cases hlt : k < 25
    · have hck := HC.out k hlt
      obtain ⟨t, ht⟩ : ∃ t, t = wordB k := ⟨_, rfl⟩
      rw [← ht] at hck
      have HT := hideP ht
      clear ht
      have hkI : (k : Int) < 25 := by omega
      cases hq : (t.toList == s.toList)
      · have hno' : Hid (noWord s (k + 1)) := fun i hi => by
          by_cases hik : i = k
          · subst hik; rw [← HT.out]; exact (str_ne hq).symm
          · exact hno.out i (by omega)
        go_wp2
        go_round
        case rel => exact ⟨k + 1, by omega, by go_num, hno'⟩
        case measure => simp [intOf]; omega
      · have e : b = true := by
          rw [HB.out]
          exact (words_mem s).2 ⟨k, hlt, (str_eq.1 hq).symm.trans HT.out⟩
        subst e
        go_wp2
        go_ret
        exact ⟨rfl, HB1.out⟩
    · have e : b = false := by
        rw [HB.out, Bool.eq_false_iff]
        intro h
        obtain ⟨i, hi, e⟩ := (words_mem s).1 h
        exact hno.out i (by omega) e
      subst e
      go_wp2
      go_ret
      exact ⟨rfl, HB1.out⟩

theorem let_dig {b : UInt8} (h : isDig b = true) : isLet b = false := by
  unfold isDig at h
  unfold isLet
  simp at h ⊢
  omega

end Go.Proofs.YtfjlkkohccihnabGreatDoor.Lx

/- gradusref02.sign by a contract: how long the sign is that a text begins with. -/
namespace Go.Proofs.YtfjlkkohccihnabGreatDoor.Lx
open Go.RowKit

/-- The sign of two bytes with this number. -/
def twoB (i : Nat) : ByteArray := ⟨#[(twoV.getD i (0, 0)).1, (twoV.getD i (0, 0)).2]⟩

theorem extract_two {S : ByteArray} (h : 2 ≤ S.size) : S.extract 0 2 = ⟨#[S[0], S[1]]⟩ := by
  rw [extract_eq, List.drop_zero]
  have e := byteArray_drop S 0 (by omega)
  rw [List.drop_zero, byteArray_drop S 1 (by omega)] at e
  rw [e]
  rfl

theorem list_two {S : ByteArray} (h : 2 ≤ S.size) : S.data.toList = S[0] :: S[1] :: S.data.toList.drop 2 := by
  have e := byteArray_drop S 0 (by omega)
  rw [List.drop_zero, byteArray_drop S 1 (by omega)] at e
  exact e

theorem two_mem (a b : UInt8) : twoV.contains (a, b) = true ↔ ∃ i, i < 8 ∧ (⟨#[a, b]⟩ : ByteArray) = twoB i := by
  rw [List.contains_iff_mem]
  constructor
  · intro h
    obtain ⟨i, hi, e⟩ := List.mem_iff_getElem.1 h
    refine ⟨i, hi, ?_⟩
    unfold twoB
    rw [List.getD_eq_getElem?_getD, List.getElem?_eq_getElem hi, Option.getD_some, e]
  · rintro ⟨i, hi, e⟩
    unfold twoB at e
    rw [List.getD_eq_getElem?_getD, List.getElem?_eq_getElem (show i < twoV.length from hi), Option.getD_some] at e
    simp only [ByteArray.mk.injEq, Array.mk.injEq, List.cons.injEq, and_true] at e
    have : (a, b) = twoV[i]'hi := by rw [e.1, e.2]; rfl
    rw [this]
    exact List.getElem_mem ..

/-- None of the first k signs of two bytes stands there. -/
def noTwo (S : ByteArray) (k : Nat) : Prop := ∀ i, i < k → ¬ (2 ≤ S.size ∧ S.extract 0 2 = twoB i)

theorem sgnR_two {S : ByteArray} {i : Nat} (h : 2 ≤ S.size) (hi : i < 8) (e : S.extract 0 2 = twoB i) : signV S.data.toList = 2 := by
  rw [extract_two h] at e
  rw [list_two h, signV, if_pos ((two_mem _ _).2 ⟨i, hi, e⟩)]

theorem sgnR_one {S : ByteArray} (h : 0 < S.size) (hn : noTwo S 8) : signV S.data.toList = if oneV.contains S[0] then 1 else 0 := by
  by_cases h2 : 2 ≤ S.size
  · rw [list_two h2, signV, if_neg]
    rw [two_mem]
    rintro ⟨i, hi, e⟩
    exact hn i hi ⟨h2, by rw [extract_two h2]; exact e⟩
  · have e := byteArray_drop S 0 h
    rw [List.drop_zero, List.drop_eq_nil_of_le (by rw [byteArray_len]; omega)] at e
    rw [e, signV]

/-- None of the first k signs of one byte is it. -/
def noOne (O : ByteArray) (b : UInt8) (k : Nat) : Prop := ∀ i (h : i < O.size), i < k → b ≠ O[i]

theorem one_no {O : ByteArray} {b : UInt8} (hO : O.data.toList = oneV) (h : noOne O b O.size) : oneV.contains b = false := by
  rw [Bool.eq_false_iff]
  intro hc
  rw [List.contains_iff_mem, ← hO] at hc
  obtain ⟨i, hi, e⟩ := List.mem_iff_getElem.1 hc
  have hi' : i < O.size := by rw [← byteArray_len]; exact hi
  exact h i hi' hi' e.symm

theorem one_yes {O : ByteArray} {b : UInt8} {i : Nat} (hO : O.data.toList = oneV) (hi : i < O.size) (e : b = O[i]) : oneV.contains b = true := by
  rw [List.contains_iff_mem, ← hO, e]
  have hi' : i < O.data.toList.length := by rw [byteArray_len]; exact hi
  exact List.getElem_mem hi'

theorem below_drewN' {B : Nat} {a w : World} (h : Below B a w) (n : Nat) : Below B a (w.drewN n) := ⟨h.os, h.tape, h.output, h.size, h.block⟩

theorem two_cells (w : World) (ty : TypeId) : ∀ i, i < 8 → (w.alloc (.cells #[.string { data := #[45, 62] }, .string { data := #[61, 62] }, .string { data := #[60, 58] }, .string { data := #[60, 60] }, .string { data := #[60, 61] }, .string { data := #[62, 62] }, .string { data := #[61, 61] }, .string { data := #[43, 43] }] ty)).cell? ⟨w.heap.size, i, none⟩ = some (.string (twoB i)) := by
  intro i hi
  rw [cell_of_row _ _ i _ ty (0, 0) (heap_alloc_last w _)]
  match i, hi with
  | 0, _ => rfl
  | 1, _ => rfl
  | 2, _ => rfl
  | 3, _ => rfl
  | 4, _ => rfl
  | 5, _ => rfl
  | 6, _ => rfl
  | 7, _ => rfl

set_option maxHeartbeats 4000000 in
set_option maxRecDepth 100000 in
theorem signRef_c (S : ByteArray) (h0 : 0 < S.size) (hS : S.size ≤ 65536) (w : World) : Calls Tryz.prog 176 #[.string S] w fun e w' => e = .returned (.int .i64 (signV S.data.toList)) ∧ Below w.heap.size w w' := by
  obtain ⟨r, hr⟩ : ∃ r, r = signV S.data.toList := ⟨_, rfl⟩
  rw [← hr]
  have HR := hideP hr
  clear hr
  have hcell := two_cells w 9
  have hbl := bl_alloc w (.cells #[.string { data := #[45, 62] }, .string { data := #[61, 62] }, .string { data := #[60, 58] }, .string { data := #[60, 60] }, .string { data := #[60, 61] }, .string { data := #[62, 62] }, .string { data := #[61, 61] }, .string { data := #[43, 43] }] 9)
  have h0I : (0 : Int) < (S.size : Int) := by omega
  obtain ⟨O, hO⟩ : ∃ O : ByteArray, O = { data := #[40, 41, 123, 125, 91, 93, 44, 58, 59, 61, 43, 45, 42, 47, 37, 38, 94, 60, 124, 46] } := ⟨_, rfl⟩
  have hOs : O.size = 20 := by rw [hO]; rfl
  have HOL : Hid (O.data.toList = oneV) := by show _ = _; rw [hO]; rfl
  have HO := hideP hO
  have HOS := hideP hOs
  clear hO
  go_enter Tryz.func176, Tryz.ntmps176
  go_wp2
  generalize hw1 : w.alloc _ = w1 at hcell hbl ⊢
  have HC := hideP hcell
  have HB := hideP hbl
  clear hcell hbl hw1
  go_loopw [4] (fun i wr => ∃ k n : Nat, k ≤ 8 ∧ i = .int .i64 k ∧ wr = w1.drewN n ∧ Hid (noTwo S k)) (fun i _ => 8 - (intOf i).toNat)
  case atStart => exact ⟨0, 0, by omega, rfl, rfl, fun i hi => by omega⟩
  case round =>
    obtain ⟨k, n, hk, rfl, rfl, hno⟩ := hrel
    by_cases hlt : k < 8
    · have hkI : (k : Int) < 8 := by omega
      have c := HC.out k hlt
      obtain ⟨U, hU⟩ : ∃ U, U = twoB k := ⟨_, rfl⟩
      rw [← hU] at c
      have HU := hideP hU
      clear hU
      by_cases h2 : 2 ≤ S.size
      · have h2I : (2 : Int) ≤ (S.size : Int) := by omega
        cases hq : ((S.extract 0 2).toList == U.toList)
        · have hno' : Hid (noTwo S (k + 1)) := fun i hi => by
            by_cases hik : i = k
            · subst hik; rw [← HU.out]; exact fun h => str_ne hq h.2
            · exact hno.out i (by omega)
          go_wp2
          go_quiet (fail)
          go_wp2
          go_roundw
          case rel => exact ⟨k + 1, _, by omega, by go_num, rfl, hno'⟩
          case measure => simp [intOf]; omega
        · have e : r = 2 := by
            rw [HR.out]
            exact sgnR_two h2 hlt ((str_eq.1 hq).trans HU.out)
          subst e
          go_wp2
          go_quiet (fail)
          go_wp2
          go_ret
          exact ⟨rfl, by first | exact below_drewN' HB.out _ | exact below_drewN' (below_drewN' HB.out _) _⟩
      · have h2I : decide ((2 : Int) ≤ (S.size : Int)) = false := by simp; omega
        have hno' : Hid (noTwo S (k + 1)) := fun i hi h => h2 h.1
        go_wp2
        go_quiet (fail)
        go_wp2
        go_roundw
        case rel => exact ⟨k + 1, _, by omega, by go_num, rfl, hno'⟩
        case measure => simp [intOf]; omega
    · have hs1 := hideP (sgnR_one h0 (fun i hi => hno.out i (by omega)))
      go_wp2
      rw [← HO.out]
      go_loopw [6] (fun i wr => ∃ k n : Nat, k ≤ 20 ∧ i = .int .i64 k ∧ wr = w1.drewN n ∧ Hid (noOne O S[0] k)) (fun i _ => 20 - (intOf i).toNat)
      case atStart => exact ⟨0, _, by omega, rfl, rfl, fun i _ hi => by omega⟩
      case round =>
        obtain ⟨j, n2, hj, rfl, rfl, hno2⟩ := hrel
        by_cases hltj : j < 20
        · have hjs : j < O.size := by omega
          have hjI : (j : Int) < (O.size : Int) := by omega
          by_cases hq : S[0].toNat = O[j].toNat
          · have p : ((S[0].toNat : Int) == (O[j].toNat : Int)) = true := by simp; omega
            have e : r = 1 := by
              rw [HR.out, hs1.out, one_yes HOL.out hjs (UInt8.toNat_inj.1 hq)]
              rfl
            subst e
            clear hq
            go_wp2
            go_quiet (fail)
            go_wp2
            go_ret
            exact ⟨rfl, by first | exact below_drewN' HB.out _ | exact below_drewN' (below_drewN' HB.out _) _⟩
          · have p : ((S[0].toNat : Int) == (O[j].toNat : Int)) = false := by simp; omega
            have hno' : Hid (noOne O S[0] (j + 1)) := fun i hi hik => by
              by_cases e : i = j
              · subst e; exact fun e2 => hq (by rw [e2])
              · exact hno2.out i hi (by omega)
            clear hq
            go_wp2
            go_quiet (fail)
            go_wp2
            go_roundw
            case rel => exact ⟨j + 1, _, by omega, by go_num, rfl, hno'⟩
            case measure => simp [intOf]; omega
        · have hjI : ¬ (j : Int) < (O.size : Int) := by omega
          have e : r = 0 := by
            rw [HR.out, hs1.out, one_no HOL.out (fun i hi _ => hno2.out i hi (by omega))]
            rfl
          subst e
          go_wp2
          go_ret
          exact ⟨rfl, by first | exact below_drewN' HB.out _ | exact below_drewN' (below_drewN' HB.out _) _⟩
end Go.Proofs.YtfjlkkohccihnabGreatDoor.Lx

/- Strings are read as they were written; without a program in sight. -/
namespace Go.Proofs.YtfjlkkohccihnabGreatDoor.Lx

end Go.Proofs.YtfjlkkohccihnabGreatDoor.Lx

/- lex.Quote by a contract. -/
namespace Go.Proofs.YtfjlkkohccihnabGreatDoor.Lx
open Go.RowKit

end Go.Proofs.YtfjlkkohccihnabGreatDoor.Lx

/- gradusref02.Quote by a contract. -/
namespace Go.Proofs.YtfjlkkohccihnabGreatDoor.Lx
open Go.RowKit

theorem str_add (T U : ByteArray) : (T ++ U).data.toList = T.data.toList ++ U.data.toList := by simp
theorem str_addS (T U : ByteArray) : (T ++ U).size = T.size + U.size := by simp [ByteArray.size_append]

theorem extract_one {S : ByteArray} {k : Nat} (hk : k < S.size) : (S.extract k (k + 1)).data.toList = [S[k]] := by
  rw [extract_eq, Nat.add_sub_cancel_left, byteArray_drop S k hk]
  rfl

theorem extract_oneS {S : ByteArray} {k : Nat} (hk : k < S.size) : (S.extract k (k + 1)).size = 1 := by
  rw [← byteArray_len, extract_one hk]
  rfl

end Go.Proofs.YtfjlkkohccihnabGreatDoor.Lx

/- gradusref02.quoted by a contract: the string that a text begins with. -/
namespace Go.Proofs.YtfjlkkohccihnabGreatDoor.Lx
open Go.RowKit

/-- What a call of quoted hands back. -/
def QuotPost (S : ByteArray) (o : Option (List UInt8 × List UInt8)) (e : Ending) : Prop :=
  match o with
  | none => e = .returned (.tuple #[.string { data := #[] }, .int .i64 0])
  | some (said, rest) => ∃ m : Nat, 1 < m ∧ m ≤ S.size ∧ rest = S.data.toList.drop m ∧ e = .returned (.tuple #[.string ⟨said.toArray⟩, .int .i64 m])

set_option maxHeartbeats 4000000 in
set_option maxRecDepth 100000 in
theorem quotedR_c (S : ByteArray) (hS : S.size ≤ 65536) (w : World) : Calls Tryz.prog 175 #[.string S] w fun e w' => QuotPost S (strAt S 1 []) e ∧ w' = w := by
  obtain ⟨o, ho⟩ : ∃ o, o = strAt S 1 [] := ⟨_, rfl⟩
  rw [← ho]
  have HO := hideP ho
  clear ho
  go_enter Tryz.func175, Tryz.ntmps175
  go_wp2
  go_loop [4, 5] (fun v i => ∃ (m : Nat) (T : ByteArray), 1 ≤ m ∧ m ≤ S.size + 1 ∧ i = .int .i64 m ∧ v = .string T ∧ T.size ≤ m ∧ Hid (o = strAt S m T.data.toList)) (fun _ i => S.size + 1 - (intOf i).toNat)
  case atStart => exact ⟨1, _, Nat.le_refl _, by omega, rfl, rfl, by decide, HO.out⟩
  case round =>
    obtain ⟨m, T, hm1, hmS, rfl, rfl, hT, hrel⟩ := hrel
    by_cases hlt : m < S.size
    · have hltI : (m : Int) < (S.size : Int) := by omega
      by_cases b1 : S[m].toNat = 34
      · have p1 : ((S[m].toNat : Int) == 34) = true := by simp; omega
        have e := hrel.out.trans (strAt_shut hlt b1)
        subst e
        clear b1 hrel HO
        go_wp2
        go_ret2
        exact ⟨⟨m + 1, by omega, by omega, rfl, rfl⟩, rfl⟩
      have n1 : ((S[m].toNat : Int) == 34) = false := by simp; omega
      by_cases b2 : S[m].toNat < 32
      · have p2 : (S[m].toNat : Int) < 32 := by omega
        have e := hrel.out.trans (strAt_low hlt b2)
        subst e
        clear b1 b2 hrel HO
        go_wp2
        go_ret2
        exact ⟨rfl, rfl⟩
      have n2 : ¬ (S[m].toNat : Int) < 32 := by omega
      by_cases b3 : S[m].toNat = 92
      · have p3 : ((S[m].toNat : Int) != 92) = false := by simp; omega
        by_cases hl1 : m + 1 < S.size
        · have hl1I : ¬ (S.size : Int) ≤ (m : Int) + 1 := by omega
          have hl1J : (m : Int) + 1 < (S.size : Int) := by omega
          have hx1 := hideP (extract_one hl1)
          have hx2 := extract_oneS hl1
          have l1 : (m : Int) + 1 + 1 ≤ (S.size : Int) := by omega
          have l2 : (m : Int) + 1 ≤ (m : Int) + 1 + 1 := by omega
          have some1 := fun x => strAt_some (acc := T.data.toList) (x := x) hlt b3 hl1
          have none1 := strAt_none (acc := T.data.toList) hlt b3 hl1
          by_cases c1 : S[m + 1].toNat = 92
          · have q1 : ((S[m + 1].toNat : Int) == 92) = true := by simp; omega
            have e1 : S[m + 1] = 92 := UInt8.toNat_inj.1 c1
            have E : Hid (o = strAt S (m + 2) (T ++ S.extract (m + 1) (m + 1 + 1)).data.toList) := by
              show _ = _
              rw [str_add, hx1.out, e1, hrel.out]
              exact some1 92 (by rw [e1]; rfl)
            clear c1 e1 b1 b2 b3 some1 none1 hrel HO hx1
            go_wp2
            go_round
            case rel => exact ⟨m + 2, _, by omega, by omega, by go_num, rfl, by rw [str_addS]; omega, E⟩
            case measure => simp [intOf]; omega
          have r1 : ((S[m + 1].toNat : Int) == 92) = false := by simp; omega
          by_cases c2 : S[m + 1].toNat = 34
          · have q2 : ((S[m + 1].toNat : Int) == 34) = true := by simp; omega
            have e1 : S[m + 1] = 34 := UInt8.toNat_inj.1 c2
            have E : Hid (o = strAt S (m + 2) (T ++ S.extract (m + 1) (m + 1 + 1)).data.toList) := by
              show _ = _
              rw [str_add, hx1.out, e1, hrel.out]
              exact some1 34 (by rw [e1]; rfl)
            clear c1 c2 e1 b1 b2 b3 some1 none1 hrel HO hx1
            go_wp2
            go_round
            case rel => exact ⟨m + 2, _, by omega, by omega, by go_num, rfl, by rw [str_addS]; omega, E⟩
            case measure => simp [intOf]; omega
          have r2 : ((S[m + 1].toNat : Int) == 34) = false := by simp; omega
          by_cases c3 : S[m + 1].toNat = 110
          · have q3 : ((S[m + 1].toNat : Int) == 110) = true := by simp; omega
            have e1 : S[m + 1] = 110 := UInt8.toNat_inj.1 c3
            have E : Hid (o = strAt S (m + 2) (T ++ { data := #[10] }).data.toList) := by
              show _ = _
              rw [str_add, hrel.out]
              exact some1 10 (by rw [e1]; rfl)
            have hs1 : (T ++ { data := #[10] } : ByteArray).size ≤ m + 2 := by rw [str_addS]; show T.size + 1 ≤ m + 2; omega
            clear c1 c2 c3 e1 b1 b2 b3 some1 none1 hrel HO hx1
            go_wp2
            go_round
            case rel => exact ⟨m + 2, _, by omega, by omega, by go_num, rfl, hs1, E⟩
            case measure => simp [intOf]; omega
          have r3 : ((S[m + 1].toNat : Int) == 110) = false := by simp; omega
          by_cases c4 : S[m + 1].toNat = 116
          · have q4 : ((S[m + 1].toNat : Int) == 116) = true := by simp; omega
            have e1 : S[m + 1] = 116 := UInt8.toNat_inj.1 c4
            have E : Hid (o = strAt S (m + 2) (T ++ { data := #[9] }).data.toList) := by
              show _ = _
              rw [str_add, hrel.out]
              exact some1 9 (by rw [e1]; rfl)
            have hs1 : (T ++ { data := #[9] } : ByteArray).size ≤ m + 2 := by rw [str_addS]; show T.size + 1 ≤ m + 2; omega
            clear c1 c2 c3 c4 e1 b1 b2 b3 some1 none1 hrel HO hx1
            go_wp2
            go_round
            case rel => exact ⟨m + 2, _, by omega, by omega, by go_num, rfl, hs1, E⟩
            case measure => simp [intOf]; omega
          have r4 : ((S[m + 1].toNat : Int) == 116) = false := by simp; omega
          have f : ∀ n : UInt8, S[m + 1].toNat ≠ n.toNat → ¬ S[m + 1] = n := fun n hn e => hn (by rw [e])
          have e := hrel.out.trans (none1 (by rw [unescV, if_neg (f 92 c1), if_neg (f 34 c2), if_neg (f 110 c3), if_neg (f 116 c4)]))
          subst e
          clear c1 c2 c3 c4 b1 b2 b3 some1 none1 hrel HO hx1 f
          go_wp2
          go_ret2
          exact ⟨rfl, rfl⟩
        · have hl1I : (S.size : Int) ≤ (m : Int) + 1 := by omega
          have e := hrel.out.trans (strAt_cut hlt b3 hl1)
          subst e
          clear b1 b2 b3 hrel HO
          go_wp2
          go_ret2
          exact ⟨rfl, rfl⟩
      have n3 : ((S[m].toNat : Int) != 92) = true := by simp; omega
      have hx1 := hideP (extract_one hlt)
      have hx2 := extract_oneS hlt
      have l1 : (m : Int) + 1 ≤ (S.size : Int) := by omega
      have l2 : (m : Int) ≤ (m : Int) + 1 := by omega
      have E : Hid (o = strAt S (m + 1) (T ++ S.extract m (m + 1)).data.toList) := by
        show _ = _
        rw [str_add, hx1.out, hrel.out]
        exact strAt_on hlt b1 b2 b3
      clear b1 b2 b3 hrel HO hx1
      go_wp2
      go_round
      case rel => exact ⟨m + 1, _, by omega, by omega, by go_num, rfl, by rw [str_addS]; omega, E⟩
      case measure => simp [intOf]; omega
    · have hltI : ¬ (m : Int) < (S.size : Int) := by omega
      have e := hrel.out.trans (strAt_end hlt)
      subst e
      clear hrel HO
      go_wp2
      go_ret2
      exact ⟨rfl, rfl⟩
end Go.Proofs.YtfjlkkohccihnabGreatDoor.Lx

/- The number of a row of digits: without a program in sight. -/
namespace Go.Proofs.YtfjlkkohccihnabGreatDoor.Lx

/-- The number of a row of digits, behind the number so far. -/
def val : List UInt8 → Int → Int
  | [], n => n
  | d :: r, n => val r (n * 10 + ((d.toNat : Int) - 48))

def Digit (d : UInt8) : Prop := 48 ≤ (d.toNat : Int) ∧ (d.toNat : Int) ≤ 57

theorem val_ge : ∀ (l : List UInt8) (n : Int), 0 ≤ n → (∀ d ∈ l, Digit d) → n ≤ val l n
  | [], n, _, _ => Int.le_refl n
  | d :: r, n, hn, hd => by
    have h := hd d (List.mem_cons_self ..)
    unfold Digit at h
    have := val_ge r (n * 10 + ((d.toNat : Int) - 48)) (by omega) (fun x hx => hd x (List.mem_cons_of_mem _ hx))
    rw [val]
    omega

theorem val_append : ∀ (l : List UInt8) (d : UInt8) (n : Int), val (l ++ [d]) n = val l n * 10 + ((d.toNat : Int) - 48)
  | [], _, _ => rfl
  | x :: r, d, n => by
    rw [List.cons_append, val, val, val_append r d]

theorem parseGo_some : ∀ (l : List UInt8) (n : Int), 0 ≤ n → (∀ d ∈ l, Digit d) → val l n ≤ 9223372036854775807 → parseGo l n = some (val l n)
  | [], _, _, _, _ => rfl
  | d :: r, n, hn, hd, hv => by
    have h := hd d (List.mem_cons_self ..)
    unfold Digit at h
    have hr : ∀ x ∈ r, Digit x := fun x hx => hd x (List.mem_cons_of_mem _ hx)
    rw [val] at hv ⊢
    have hg := val_ge r (n * 10 + ((d.toNat : Int) - 48)) (by omega) hr
    rw [parseGo, if_neg (by omega), if_neg (by omega)]
    exact parseGo_some r _ (by omega) hr hv

theorem parseGo_none : ∀ (l : List UInt8) (n : Int), 0 ≤ n → ((∃ d ∈ l, ¬ Digit d) ∨ (∀ d ∈ l, Digit d) ∧ 9223372036854775807 < val l n ∧ n ≤ 9223372036854775807) → parseGo l n = none
  | [], n, _, h => by
    rcases h with ⟨d, hd, _⟩ | ⟨_, h, h2⟩
    · cases hd
    · rw [val] at h
      omega
  | d :: r, n, hn, h => by
    rw [parseGo]
    by_cases hd : (d.toNat : Int) < 48 ∨ 57 < (d.toNat : Int)
    · rw [if_pos hd]
    rw [if_neg hd]
    by_cases ho : (9223372036854775807 - ((d.toNat : Int) - 48)) / 10 < n
    · rw [if_pos ho]
    rw [if_neg ho]
    refine parseGo_none r _ (by omega) ?_
    rcases h with ⟨x, hx, hnx⟩ | ⟨ha, hv, hm⟩
    · rcases List.mem_cons.1 hx with rfl | hx
      · exact absurd (show Digit x from ⟨by omega, by omega⟩) hnx
      · exact Or.inl ⟨x, hx, hnx⟩
    · rw [val] at hv
      exact Or.inr ⟨fun x hx => ha x (List.mem_cons_of_mem _ hx), hv, by omega⟩
end Go.Proofs.YtfjlkkohccihnabGreatDoor.Lx

/- gradusref01.Parse by a contract: the same as word.Parse's. -/
namespace Go.Proofs.YtfjlkkohccihnabGreatDoor.Lx
open Go.RowKit

/-- So many digits and no more hold a number of at most so much. -/
def top (k : Nat) : Int := 10 ^ k - 1

theorem top_19 {k : Nat} (h : k ≤ 19) : top k ≤ 9999999999999999999 := by
  have : (10 : Nat) ^ k ≤ 10 ^ 19 := Nat.pow_le_pow_right (by decide) h
  have e : ((10 ^ k : Nat) : Int) = (10 : Int) ^ k := by simp
  unfold top
  omega

theorem top_18 {k : Nat} {m : Int} (h : m ≤ top k) (hk : k ≤ 18) : m ≤ 999999999999999999 := by
  have : (10 : Nat) ^ k ≤ 10 ^ 18 := Nat.pow_le_pow_right (by decide) hk
  have e : ((10 ^ k : Nat) : Int) = (10 : Int) ^ k := by simp
  unfold top at h
  omega

theorem top_succ {k : Nat} {m d : Int} (h : m ≤ top k) (hd : d ≤ 9) : 10 * m + d ≤ top (k + 1) := by
  have e : (10 : Int) ^ (k + 1) = 10 ^ k * 10 := Int.pow_succ 10 k
  unfold top at *
  omega

theorem take_at (s : ByteArray) (k : Nat) (hk : k < s.size) : s.data.toList.take (k + 1) = s.data.toList.take k ++ [s[k]] := by
  have h : k < s.data.toList.length := by rw [byteArray_len]; exact hk
  rw [List.take_succ_eq_append_getElem h]
  rfl

theorem val_take (s : ByteArray) (k : Nat) (hk : k < s.size) : val (s.data.toList.take (k + 1)) 0 = 10 * val (s.data.toList.take k) 0 + ((s[k].toNat : Int) - 48) := by
  rw [take_at s k hk, val_append]
  omega

theorem mem_byte (s : ByteArray) (k : Nat) (hk : k < s.size) : s[k] ∈ s.data.toList := by
  have h : k < s.data.toList.length := by rw [byteArray_len]; exact hk
  exact List.getElem_mem h

theorem digits_take (s : ByteArray) (k : Nat) (hk : k < s.size) (h : ∀ d ∈ s.data.toList.take k, Digit d) (hd : Digit s[k]) : ∀ d ∈ s.data.toList.take (k + 1), Digit d := by
  rw [take_at s k hk]
  intro d hm
  rcases List.mem_append.1 hm with hm | hm
  · exact h d hm
  · rw [List.mem_singleton.1 hm]
    exact hd

theorem val_long : ∀ (l : List UInt8) (n : Int), 0 ≤ n → (∀ d ∈ l, Digit d) → n * 10 ^ l.length ≤ val l n
  | [], n, _, _ => by simp [val]
  | d :: r, n, hn, hd => by
    have h := hd d (List.mem_cons_self ..)
    unfold Digit at h
    have ih := val_long r (n * 10 + ((d.toNat : Int) - 48)) (by omega) (fun x hx => hd x (List.mem_cons_of_mem _ hx))
    rw [val, List.length_cons, Int.pow_succ]
    have hp : (0 : Int) < 10 ^ r.length := Int.pow_pos (by decide)
    have : n * (10 ^ r.length * 10) ≤ (n * 10 + ((d.toNat : Int) - 48)) * 10 ^ r.length := by
      rw [Int.add_mul, Int.mul_comm (10 ^ r.length) 10, ← Int.mul_assoc]
      have := Int.mul_nonneg (show 0 ≤ (d.toNat : Int) - 48 by omega) (Int.le_of_lt hp)
      omega
    omega

/-- A text of twenty signs and more that has no nought ahead is no number. -/
theorem parse_long (s : ByteArray) (h0 : 0 < s.size) (hn : ¬ ((s[0].toNat : Int) = 48 ∧ 1 < s.size)) (hl : 19 < s.size) : parseV s.data.toList = none := by
  rw [parseV_go h0 hn]
  refine parseGo_none _ 0 (by omega) ?_
  by_cases ha : ∀ d ∈ s.data.toList, Digit d
  · refine Or.inr ⟨ha, ?_, by omega⟩
    have e := byteArray_drop s 0 h0
    rw [List.drop_zero] at e
    have hd := ha _ (mem_byte s 0 h0)
    unfold Digit at hd
    have hr : ∀ d ∈ s.data.toList.drop (0 + 1), Digit d := fun d hd => ha d (List.mem_of_mem_drop hd)
    obtain ⟨x, hx⟩ : ∃ x : Int, x = (s[0].toNat : Int) - 48 := ⟨_, rfl⟩
    have hv := val_long (s.data.toList.drop (0 + 1)) x (by omega) hr
    have hlen : (s.data.toList.drop (0 + 1)).length = s.size - 1 := by rw [List.length_drop, byteArray_len]
    rw [hlen] at hv
    have hp : (10 : Nat) ^ 19 ≤ 10 ^ (s.size - 1) := Nat.pow_le_pow_right (by decide) (by omega)
    have e2 : ((10 ^ (s.size - 1) : Nat) : Int) = (10 : Int) ^ (s.size - 1) := by simp
    have e3 : val s.data.toList 0 = val (s.data.toList.drop (0 + 1)) x := by
      rw [e, val, hx]
      simp
    rw [e3]
    have h1 : (1 : Int) ≤ x := by omega
    have := Int.mul_le_mul_of_nonneg_right h1 (show (0 : Int) ≤ 10 ^ (s.size - 1) by omega)
    omega
  · refine Or.inl ?_
    obtain ⟨d, hd⟩ := Classical.not_forall.1 ha
    obtain ⟨h1, h2⟩ := Classical.not_imp.1 hd
    exact ⟨d, h1, h2⟩

set_option maxRecDepth 100000 in
theorem parseR_c (s : ByteArray) (w : World) (hs : s.size ≤ 9223372036854775807) : Calls Tryz.prog 174 #[.string s] w fun e w' => e = .returned (parsed (parseV s.data.toList)) ∧ w' = w := by
  by_cases hz : s.size = 0
  · have hz1 : ((s.size : Int) == 0) = true := by simpa using hz
    rw [parseV_empty hz]
    go_enter Tryz.func174, Tryz.ntmps174
    go_wp2
    go_ret2
    exact ⟨rfl, rfl⟩
  have hz1 : ((s.size : Int) == 0) = false := by simpa using hz
  have h0 : 0 < s.size := by omega
  by_cases hn : (s[0].toNat : Int) = 48 ∧ 1 < s.size
  · rw [parseV_nought h0 hn.1 hn.2]
    obtain ⟨hn1, hn2⟩ := hn
    by_cases hl : 19 < s.size
    all_goals
      go_enter Tryz.func174, Tryz.ntmps174
      go_wp2
      go_ret2
      exact ⟨rfl, rfl⟩
  by_cases hl : 19 < s.size
  · rw [parse_long s h0 hn hl]
    clear hn
    go_enter Tryz.func174, Tryz.ntmps174
    go_wp2
    go_ret2
    exact ⟨rfl, rfl⟩
  have HV := hideP (parseV_go h0 hn)
  have hd : ((s[0].toNat : Int) = 48 ∧ s.size ≤ 1) ∨ ¬ (s[0].toNat : Int) = 48 := by omega
  clear hn hz
  rcases hd with ⟨hd, hd1⟩ | hd
  all_goals
    go_enter Tryz.func174, Tryz.ntmps174
    go_wp2
    go_loop [4, 5] (fun n i => ∃ (k : Nat) (m : Int), k ≤ s.size ∧ i = .int .i64 k ∧ n = .int .u64 m ∧ 0 ≤ m ∧ m ≤ top k ∧ m = val (s.data.toList.take k) 0 ∧ ∀ d ∈ s.data.toList.take k, Digit d) (fun _ i => s.size - (intOf i).toNat)
    case atStart => exact ⟨0, 0, Nat.zero_le _, rfl, rfl, by omega, by decide, rfl, by simp⟩
    case round =>
      obtain ⟨k, m, hk, rfl, rfl, hm0, hm1, hv, ha⟩ := hrel
      have HT := hideP hm1
      have HM := hideP hv
      have HA := hideP ha
      clear hm1 hv ha
      by_cases hkl : k < s.size
      · have hm2 : m ≤ 999999999999999999 := top_18 HT.out (by omega)
        by_cases b1 : (s[k].toNat : Int) < 48
        · go_wp2
          go_ret2
          rw [HV.out, parseGo_none _ 0 (by omega) (Or.inl ⟨s[k], mem_byte s k hkl, fun h => by unfold Digit at h; omega⟩)]
          exact ⟨rfl, rfl⟩
        by_cases b2 : 57 < (s[k].toNat : Int)
        · go_wp2
          go_ret2
          rw [HV.out, parseGo_none _ 0 (by omega) (Or.inl ⟨s[k], mem_byte s k hkl, fun h => by unfold Digit at h; omega⟩)]
          exact ⟨rfl, rfl⟩
        · go_wp2
          go_round
          case rel => exact ⟨k + 1, 10 * m + ((s[k].toNat : Int) - 48), by omega, by go_num, rfl, by omega, top_succ HT.out (by omega), by rw [val_take s k hkl, HM.out], digits_take s k hkl HA.out ⟨by omega, by omega⟩⟩
          case measure => simp [intOf]; omega
      · have hm2 : m ≤ 9999999999999999999 := Int.le_trans HT.out (top_19 (by omega))
        have e : s.data.toList.take k = s.data.toList := List.take_of_length_le (by rw [byteArray_len]; omega)
        rw [e] at HM HA
        by_cases ho : 9223372036854775807 < m
        · go_wp2
          go_ret2
          rw [HV.out, parseGo_none _ 0 (by omega) (Or.inr ⟨HA.out, by rw [← HM.out]; exact ho, by omega⟩)]
          exact ⟨rfl, rfl⟩
        · go_wp2
          go_ret2
          rw [HV.out, parseGo_some _ 0 (by omega) HA.out (by rw [← HM.out]; omega), ← HM.out]
          exact ⟨rfl, rfl⟩
end Go.Proofs.YtfjlkkohccihnabGreatDoor.Lx

/- gradusref02.token by a contract: the token that a text begins with. -/
namespace Go.Proofs.YtfjlkkohccihnabGreatDoor.Lx
open Go.RowKit

/-- What a call of token leaves. -/
def TokPost (S : ByteArray) (w : World) (R : Rd) (e : Ending) (w' : World) : Prop :=
  Below w.heap.size w w' ∧ match R with
  | .inl x => x ≠ 0 ∧ e = .returned (.tuple #[.agg #[.int .i64 0, .string { data := #[] }, .int .i64 0, .int .i64 0], .int .i64 0, .int .i64 x])
  | .inr (k, t, rest) => ∃ n : Nat, 0 < n ∧ n ≤ S.size ∧ rest = S.data.toList.drop n ∧ e = .returned (.tuple #[.agg #[.int .i64 k, .string ⟨t.toArray⟩, .int .i64 0, .int .i64 0], .int .i64 n, .int .i64 0])

theorem results_cell_tmps {fn : Func} {p u v : Tmp} {ty : TypeId} (h : fn.results = #[.cell p ty, .tmp u, .tmp v]) (tmps : Array Value) {P : Program} {w : World} {g : Nat} {t : TypeId} {cs : Array Value} {fr : Nat × Nat} {fs : Array Field}
    (hp : tmps.getD p undef = .pointer (some ⟨g, 0, none⟩)) (hg : w.heap[g]? = some (.cells cs t fr))
    (hu : P.underlying ty = some (.struct fs)) (hi : (P.info? ty).map (·.size) = some cs.size) :
    (results fn tmps).run P w = .ok (.tuple #[.agg cs, tmps.getD u undef, tmps.getD v undef]) w := by
  have hp' : tmps[p]?.getD undef = .pointer (some ⟨g, 0, none⟩) := by simpa using hp
  simp [results, h, hp', asAddr, run_loadVar_row w g t ty cs fr _ hg hu rfl hi]

theorem tok_size : (Tryz.prog.info? 108).map (·.size) = some 4 := by kernel_rfl

theorem TokB.set {w : World} {tb : Nat} {kind : Int} {text : ByteArray} {li co : Int} (h : TokB w tb kind text li co) (k' : Int) (t' : ByteArray) (li' co' : Int) :
    TokB ((((w.setCell ⟨tb, 0, none⟩ (.int .i64 k')).setCell ⟨tb, 1, none⟩ (.string t')).setCell ⟨tb, 2, none⟩ (.int .i64 li')).setCell ⟨tb, 3, none⟩ (.int .i64 co')) tb k' t' li' co' :=
  cells_setCell (cells_setCell (cells_setCell (cells_setCell h)))

/-- The result's block is there still. -/
theorem tok_kept {w w2 : World} (h : Below (w.alloc (.cells #[.int .i64 0, .string { data := #[] }, .int .i64 0, .int .i64 0] 108)).heap.size (w.alloc (.cells #[.int .i64 0, .string { data := #[] }, .int .i64 0, .int .i64 0] 108)) w2) : TokB w2 w.heap.size 0 { data := #[] } 0 0 := by
  unfold TokB
  rw [h.block _ (by simp)]
  exact heap_alloc_last w _

theorem let_not_dig {b : UInt8} (h : isLet b = true) : isDig b = false := by
  cases hd : isDig b
  · rfl
  · rw [let_dig hd] at h
    cases h

theorem row_take (S : ByteArray) (p : UInt8 → Bool) : (S.extract 0 (rowV S 0 p)).data.toList = S.data.toList.takeWhile p := by
  rw [extract_row, List.drop_zero]

set_option maxHeartbeats 8000000 in
set_option maxRecDepth 100000 in
theorem tokenR_let (S : ByteArray) (h0 : 0 < S.size) (hS : S.size ≤ 65536) (hl : isLet S[0] = true) (w : World) : Calls Tryz.prog 114 #[.string S] w (TokPost S w (readV S.data.toList)) := by
  have hrd := read_drop (k := 0) h0
  rw [List.drop_zero, hl, if_pos rfl] at hrd
  have hl0 := letterR_c S[0]
  have hd0 := digitR_c S[0]
  rw [hl] at hl0
  rw [let_not_dig hl] at hd0
  have HL0 := hideP hl0
  have HD0 := hideP hd0
  have hgt := row_gt (p := inNm) h0 (by simp [inNm, hl])
  have hle := rowV_le S 0 inNm (by omega)
  have htk := row_take S inNm
  have hrl : rowV S 0 inNm = (S.data.toList.takeWhile inNm).length := by unfold rowV; simp
  rw [← hrl, ← htk] at hrd
  obtain ⟨r, hr⟩ : ∃ r, r = rowV S 0 inNm := ⟨_, rfl⟩
  have hrow := hideP hr
  have hwc := wordR_c (S.extract 0 r)
  rw [← hr] at hrd hgt hle
  obtain ⟨R, hR⟩ : ∃ R, R = readV S.data.toList := ⟨_, rfl⟩
  rw [← hR] at hrd ⊢
  have HRD := hideP hrd
  have HWC := hideP hwc
  have h0I : (0 : Int) < (S.size : Int) := by omega
  clear hl0 hd0 hl hr hrd htk hrl hR hwc
  go_enter Tryz.func114, Tryz.ntmps114
  go_wp2_with fail
  refine (HL0.out _).mono ?_
  rintro e w' ⟨rfl, rfl⟩
  go_wp2_with fail
  refine (HD0.out _).mono ?_
  rintro e w' ⟨rfl, rfl⟩
  go_wp2
  go_loop [7] (fun i => ∃ m : Nat, m ≤ S.size ∧ i = .int .i64 m ∧ Hid (r = rowV S m inNm)) (fun i => S.size - (intOf i).toNat)
  case atStart => exact ⟨0, Nat.zero_le _, rfl, hrow⟩
  case round =>
    obtain ⟨m, hm, rfl, hrm⟩ := hrel
    by_cases hin : ∃ h : m < S.size, inNm S[m] = true
    · obtain ⟨hlt, hin⟩ := hin
      have hltI : (m : Int) < (S.size : Int) := by omega
      have hl1 := letterR_c S[m]
      have hd1 := digitR_c S[m]
      have N : Hid (r = rowV S (m + 1) inNm) := hrm.out.trans (rowV_on hlt hin)
      have hab : (isLet S[m] = true ∧ isDig S[m] = false) ∨ (isLet S[m] = false ∧ isDig S[m] = true) ∨ (isLet S[m] = true ∧ isDig S[m] = true) := by
        revert hin
        unfold inNm
        cases isLet S[m] <;> cases isDig S[m] <;> simp
      clear hin
      rcases hab with ⟨ha, hb⟩ | ⟨ha, hb⟩ | ⟨ha, hb⟩
      all_goals
        rw [ha] at hl1
        rw [hb] at hd1
        have HL1 := hideP hl1
        have HD1 := hideP hd1
        clear hl1 hd1 ha hb
        go_wp2_with fail
        refine (HL1.out _).mono ?_
        rintro e w' ⟨rfl, rfl⟩
        go_wp2_with fail
        refine (HD1.out _).mono ?_
        rintro e w' ⟨rfl, rfl⟩
        go_wp2
        go_round
        case rel => exact ⟨m + 1, by omega, by go_num, N⟩
        case measure => simp [intOf]; omega
    · have hmr : r = m := by
        by_cases hlt : m < S.size
        · rw [hrm.out]
          refine rowV_off hlt ?_
          cases hq : inNm S[m]
          · rfl
          · exact absurd ⟨hlt, hq⟩ hin
        · rw [hrm.out, rowV_end hlt]
      subst hmr
      have mI : (r : Int) ≤ (S.size : Int) := by omega
      have hex : (∃ h : r < S.size, (r : Int) < (S.size : Int) ∧ isLet S[r] = false ∧ isDig S[r] = false) ∨ ¬ (r : Int) < (S.size : Int) := by
        by_cases hlt : r < S.size
        · have : inNm S[r] = false := by
            cases hq : inNm S[r]
            · rfl
            · exact absurd ⟨hlt, hq⟩ hin
          unfold inNm at this
          rw [Bool.or_eq_false_iff] at this
          exact .inl ⟨hlt, by omega, this.1, this.2⟩
        · exact .inr (by omega)
      clear hin hrm hrow
      rcases hex with ⟨hlt, hltI, ha, hb⟩ | hltI
      all_goals
        first
        | (have hl1 := letterR_c S[r]
           have hd1 := digitR_c S[r]
           rw [ha] at hl1
           rw [hb] at hd1
           have HL1 := hideP hl1
           have HD1 := hideP hd1
           clear hl1 hd1 ha hb
           go_wp2_with fail
           refine (HL1.out _).mono ?_
           rintro e w' ⟨rfl, rfl⟩
           go_wp2_with fail
           refine (HD1.out _).mono ?_
           rintro e w' ⟨rfl, rfl⟩)
        | skip
        by_cases h32 : 32 < r
        · have h32I : (32 : Int) < (r : Int) := by omega
          have e1 := HRD.out
          rw [if_pos h32] at e1
          subst e1
          clear HRD
          go_wp2
          refine bodyPost_ret (results_cell_tmps rfl _ rfl (heap_alloc_last w _) Tryz.underlying108 tok_size) rfl ?_
          exact ⟨bl_alloc w _, by decide, rfl⟩
        · have h32I : ¬ (32 : Int) < (r : Int) := by omega
          have e1 := HRD.out
          rw [if_neg h32] at e1
          have HE1 := hideP e1
          clear e1 HRD
          go_wp2_with fail
          refine (HWC.out _).mono ?_
          rintro e w2 ⟨rfl, hb2⟩
          have htb := tok_kept hb2
          have HTB := hideP htb
          have c0 := htb.c0
          have c1 := htb.c1
          have c2 := htb.c2
          have c3 := htb.c3
          have f0 := htb.fz 0
          have f1 := htb.fz 1
          have f2 := htb.fz 2
          have f3 := htb.fz 3
          have HB2 := hideP (below_next (bl_alloc w _) hb2)
          obtain ⟨b, hb⟩ : ∃ b, b = wordsV.contains (S.extract 0 r).data.toList := ⟨_, rfl⟩
          rw [← hb] at HE1 ⊢
          clear hb2 htb hb
          cases b
          · go_wp2
            refine bodyPost_ret (results_cell_tmps rfl _ rfl (HTB.out.set _ _ _ _) Tryz.underlying108 tok_size) rfl ?_
            rw [HE1.out]
            exact ⟨below_diag HB2.out _ _ _ _, r, hgt, hle, rfl, rfl⟩
          · go_wp2
            refine bodyPost_ret (results_cell_tmps rfl _ rfl (HTB.out.set _ _ _ _) Tryz.underlying108 tok_size) rfl ?_
            rw [HE1.out]
            exact ⟨below_diag HB2.out _ _ _ _, r, hgt, hle, rfl, rfl⟩
end Go.Proofs.YtfjlkkohccihnabGreatDoor.Lx

/- gradusref02.token by a contract: numbers, strings, signs; and any text. -/
namespace Go.Proofs.YtfjlkkohccihnabGreatDoor.Lx
open Go.RowKit

set_option maxHeartbeats 8000000 in
set_option maxRecDepth 100000 in
theorem tokenR_dig (S : ByteArray) (h0 : 0 < S.size) (hS : S.size ≤ 65536) (hd : isDig S[0] = true) (w : World) : Calls Tryz.prog 114 #[.string S] w (TokPost S w (readV S.data.toList)) := by
  have hrd := read_drop (k := 0) h0
  rw [List.drop_zero, let_dig hd, hd, if_neg (by decide), if_pos rfl] at hrd
  have hl0 := letterR_c S[0]
  have hd0 := digitR_c S[0]
  rw [let_dig hd] at hl0
  rw [hd] at hd0
  have HL0 := hideP hl0
  have HD0 := hideP hd0
  have hgt := row_gt (p := isDig) h0 hd
  have hle := rowV_le S 0 isDig (by omega)
  have htk := row_take S isDig
  rw [← htk] at hrd
  obtain ⟨r, hr⟩ : ∃ r, r = rowV S 0 isDig := ⟨_, rfl⟩
  have hrow := hideP hr
  rw [← hr] at hrd hgt hle
  have hxs : (S.extract 0 r).size ≤ 65536 := by
    rw [← byteArray_len, extract_eq]
    simp
    omega
  have hpc := parseR_c (S.extract 0 r)
  obtain ⟨R, hR⟩ : ∃ R, R = readV S.data.toList := ⟨_, rfl⟩
  rw [← hR] at hrd ⊢
  have HRD := hideP hrd
  have HPC := hideP (fun w => hpc w (by omega))
  have h0I : (0 : Int) < (S.size : Int) := by omega
  clear hl0 hd0 hd hr hrd htk hR hpc hxs
  go_enter Tryz.func114, Tryz.ntmps114
  go_wp2_with fail
  refine (HL0.out _).mono ?_
  rintro e w' ⟨rfl, rfl⟩
  go_wp2_with fail
  refine (HD0.out _).mono ?_
  rintro e w' ⟨rfl, rfl⟩
  go_wp2
  go_loop [7] (fun i => ∃ m : Nat, m ≤ S.size ∧ i = .int .i64 m ∧ Hid (r = rowV S m isDig)) (fun i => S.size - (intOf i).toNat)
  case atStart => exact ⟨0, Nat.zero_le _, rfl, hrow⟩
  case round =>
    obtain ⟨m, hm, rfl, hrm⟩ := hrel
    by_cases hin : ∃ h : m < S.size, isDig S[m] = true
    · obtain ⟨hlt, hin⟩ := hin
      have hltI : (m : Int) < (S.size : Int) := by omega
      have hl1 := letterR_c S[m]
      have hd1 := digitR_c S[m]
      have N : Hid (r = rowV S (m + 1) isDig) := hrm.out.trans (rowV_on hlt hin)
      rw [let_dig hin] at hl1
      rw [hin] at hd1
      have HL1 := hideP hl1
      have HD1 := hideP hd1
      clear hl1 hd1 hin
      go_wp2_with fail
      refine (HL1.out _).mono ?_
      rintro e w' ⟨rfl, rfl⟩
      go_wp2_with fail
      refine (HD1.out _).mono ?_
      rintro e w' ⟨rfl, rfl⟩
      go_wp2
      go_round
      case rel => exact ⟨m + 1, by omega, by go_num, N⟩
      case measure => simp [intOf]; omega
    · have hmr : r = m := by
        by_cases hlt : m < S.size
        · rw [hrm.out]
          refine rowV_off hlt ?_
          cases hq : isDig S[m]
          · rfl
          · exact absurd ⟨hlt, hq⟩ hin
        · rw [hrm.out, rowV_end hlt]
      subst hmr
      have mI : (r : Int) ≤ (S.size : Int) := by omega
      have hex : (∃ h : r < S.size, (r : Int) < (S.size : Int) ∧ isDig S[r] = false) ∨ ¬ (r : Int) < (S.size : Int) := by
        by_cases hlt : r < S.size
        · have : isDig S[r] = false := by
            cases hq : isDig S[r]
            · rfl
            · exact absurd ⟨hlt, hq⟩ hin
          exact .inl ⟨hlt, by omega, this⟩
        · exact .inr (by omega)
      clear hin hrm hrow
      rcases hex with ⟨hlt, hltI, hb⟩ | hltI
      all_goals
        first
        | (have hl1 := letterR_c S[r]
           have hd1 := digitR_c S[r]
           rw [hb] at hd1
           have HL1 := hideP hl1
           have HD1 := hideP hd1
           clear hl1 hd1 hb
           go_wp2_with fail
           refine (HL1.out _).mono ?_
           rintro e w' ⟨rfl, rfl⟩
           go_wp2_with fail
           refine (HD1.out _).mono ?_
           rintro e w' ⟨rfl, rfl⟩)
        | skip
        cases hq : parseV (S.extract 0 r).data.toList with
        | none =>
          have e1 := HRD.out
          rw [hq] at e1
          have hp1 := HPC.out
          rw [hq] at hp1
          have HP1 := hideP hp1
          clear HRD hq HPC hp1
          go_wp2_with fail
          refine (HP1.out _).mono ?_
          rintro e w' ⟨rfl, rfl⟩
          simp only [parsed, Option.getD_none, Option.isSome_none]
          go_wp2
          rw [e1]
          refine bodyPost_ret (results_cell_tmps rfl _ rfl (heap_alloc_last w _) Tryz.underlying108 tok_size) rfl ?_
          exact ⟨bl_alloc w _, by decide, rfl⟩
        | some v =>
          have e1 := HRD.out
          rw [hq] at e1
          have hp1 := HPC.out
          rw [hq] at hp1
          have HP1 := hideP hp1
          clear HRD hq HPC hp1
          go_wp2_with fail
          refine (HP1.out _).mono ?_
          rintro e w' ⟨rfl, rfl⟩
          simp only [parsed, Option.getD_some, Option.isSome_some]
          go_wp2
          rw [e1]
          refine bodyPost_ret (results_cell_tmps rfl _ rfl (heap_alloc_last w _) Tryz.underlying108 tok_size) rfl ?_
          exact ⟨bl_alloc w _, r, hgt, hle, rfl, rfl⟩

set_option maxHeartbeats 8000000 in
set_option maxRecDepth 100000 in
theorem tokenR_str (S : ByteArray) (h0 : 0 < S.size) (hS : S.size ≤ 65536) (hl : isLet S[0] = false) (hd : isDig S[0] = false) (hq : S[0] = 34) (w : World) : Calls Tryz.prog 114 #[.string S] w (TokPost S w (readV S.data.toList)) := by
  have hrd := read_drop (k := 0) h0
  rw [List.drop_zero, hl, hd, if_neg (by decide), if_neg (by decide), if_pos hq] at hrd
  have hl0 := letterR_c S[0]
  have hd0 := digitR_c S[0]
  rw [hl] at hl0
  rw [hd] at hd0
  have HL0 := hideP hl0
  have HD0 := hideP hd0
  have hqc := quotedR_c S hS
  obtain ⟨R, hR⟩ : ∃ R, R = readV S.data.toList := ⟨_, rfl⟩
  rw [← hR] at hrd ⊢
  have p1 : ((S[0].toNat : Int) == 34) = true := by rw [hq]; rfl
  have h0I : (0 : Int) < (S.size : Int) := by omega
  cases ho : strAt S 1 [] with
  | none =>
    rw [ho] at hqc
    rw [Nat.zero_add, ho] at hrd
    subst hrd
    have HQC := hideP hqc
    clear hl0 hd0 hl hd hq hR hqc ho
    go_enter Tryz.func114, Tryz.ntmps114
    go_wp2_with fail
    refine (HL0.out _).mono ?_
    rintro e w' ⟨rfl, rfl⟩
    go_wp2_with fail
    refine (HD0.out _).mono ?_
    rintro e w' ⟨rfl, rfl⟩
    go_wp2_with fail
    refine (HQC.out _).mono ?_
    rintro e w' ⟨hq, rfl⟩
    simp only [QuotPost] at hq
    subst hq
    go_wp2
    refine bodyPost_ret (results_cell_tmps rfl _ rfl (heap_alloc_last w _) Tryz.underlying108 tok_size) rfl ?_
    exact ⟨bl_alloc w _, by decide, rfl⟩
  | some sr =>
    obtain ⟨said, rest⟩ := sr
    rw [ho] at hqc
    rw [Nat.zero_add, ho] at hrd
    have hrd2 : R = if 256 < said.length then Rd.bad 2 else Rd.tok 4 said rest := hrd
    have HQC := hideP hqc
    have HRD := hideP hrd2
    clear hl0 hd0 hl hd hq hR hqc ho hrd hrd2
    go_enter Tryz.func114, Tryz.ntmps114
    go_wp2_with fail
    refine (HL0.out _).mono ?_
    rintro e w' ⟨rfl, rfl⟩
    go_wp2_with fail
    refine (HD0.out _).mono ?_
    rintro e w' ⟨rfl, rfl⟩
    go_wp2_with fail
    refine (HQC.out _).mono ?_
    rintro e w' ⟨hq, rfl⟩
    obtain ⟨m, hm1, hm2, hrest, rfl⟩ := hq
    have m0 : ((m : Int) == 0) = false := by simp; omega
    obtain ⟨T, hT⟩ : ∃ T : ByteArray, T = ⟨said.toArray⟩ := ⟨_, rfl⟩
    have hTs : T.size = said.length := by rw [hT, str_len]
    rw [← hT]
    have HTT := hideP hT
    have HREST := hideP hrest
    clear hT hrest
    by_cases h256 : 256 < said.length
    · have e1 := HRD.out
      rw [if_pos h256] at e1
      subst e1
      have h256I : (256 : Int) < (T.size : Int) := by omega
      clear hTs HRD
      go_wp2
      refine bodyPost_ret (results_cell_tmps rfl _ rfl (heap_alloc_last w _) Tryz.underlying108 tok_size) rfl ?_
      exact ⟨bl_alloc w _, by decide, rfl⟩
    · have e1 := HRD.out
      rw [if_neg h256] at e1
      subst e1
      have h256I : ¬ (256 : Int) < (T.size : Int) := by omega
      clear hTs HRD
      go_wp2
      refine bodyPost_ret (results_cell_tmps rfl _ rfl (heap_alloc_last w _) Tryz.underlying108 tok_size) rfl ?_
      exact ⟨bl_alloc w _, m, by omega, hm2, HREST.out, by rw [HTT.out]; rfl⟩

set_option maxHeartbeats 8000000 in
set_option maxRecDepth 100000 in
theorem tokenR_sgn (S : ByteArray) (h0 : 0 < S.size) (hS : S.size ≤ 65536) (hl : isLet S[0] = false) (hd : isDig S[0] = false) (hq : ¬ S[0] = 34) (w : World) : Calls Tryz.prog 114 #[.string S] w (TokPost S w (readV S.data.toList)) := by
  have hrd := read_drop (k := 0) h0
  rw [List.drop_zero, hl, hd, if_neg (by decide), if_neg (by decide), if_neg hq] at hrd
  have hl0 := letterR_c S[0]
  have hd0 := digitR_c S[0]
  rw [hl] at hl0
  rw [hd] at hd0
  have HL0 := hideP hl0
  have HD0 := hideP hd0
  have hsc := signRef_c S h0 hS
  have hsl := signV_le S.data.toList
  rw [byteArray_len] at hsl
  obtain ⟨R, hR⟩ : ∃ R, R = readV S.data.toList := ⟨_, rfl⟩
  rw [← hR] at hrd ⊢
  have p1 : ((S[0].toNat : Int) == 34) = false := by
    rw [beq_eq_false_iff_ne]
    intro e
    exact hq (UInt8.toNat_inj.1 (by show S[0].toNat = 34; omega))
  have h0I : (0 : Int) < (S.size : Int) := by omega
  obtain ⟨n, hn⟩ : ∃ n, n = signV S.data.toList := ⟨_, rfl⟩
  rw [← hn] at hsc hsl hrd
  have HSC := hideP hsc
  have HRD := hideP hrd
  have nI : (n : Int) ≤ (S.size : Int) := by omega
  clear hl0 hd0 hl hd hq hR hsc hrd hn
  go_enter Tryz.func114, Tryz.ntmps114
  go_wp2_with fail
  refine (HL0.out _).mono ?_
  rintro e w' ⟨rfl, rfl⟩
  go_wp2_with fail
  refine (HD0.out _).mono ?_
  rintro e w' ⟨rfl, rfl⟩
  go_wp2_with fail
  refine (HSC.out _).mono ?_
  rintro e w2 ⟨rfl, hb2⟩
  have htb := tok_kept hb2
  have HTB := hideP htb
  have c0 := htb.c0
  have c1 := htb.c1
  have c2 := htb.c2
  have c3 := htb.c3
  have f0 := htb.fz 0
  have f1 := htb.fz 1
  have f2 := htb.fz 2
  have f3 := htb.fz 3
  have HB2 := hideP (below_next (bl_alloc w _) hb2)
  clear htb hb2
  by_cases hz : n = 0
  · have e1 := HRD.out
    rw [if_pos hz] at e1
    subst e1
    have z1 : ((n : Int) == 0) = true := by rw [hz]; rfl
    clear HRD hz
    go_wp2
    refine bodyPost_ret (results_cell_tmps rfl _ rfl (HTB.out.set _ _ _ _) Tryz.underlying108 tok_size) rfl ?_
    exact ⟨below_diag HB2.out _ _ _ _, by decide, rfl⟩
  · have e1 := HRD.out
    rw [if_neg hz, Nat.zero_add] at e1
    subst e1
    have z1 : ((n : Int) == 0) = false := by simp; omega
    have hn0 : 0 < n := by omega
    clear HRD hz
    go_wp2
    refine bodyPost_ret (results_cell_tmps rfl _ rfl (HTB.out.set _ _ _ _) Tryz.underlying108 tok_size) rfl ?_
    refine ⟨below_diag HB2.out _ _ _ _, n, hn0, hsl, rfl, ?_⟩
    rw [extract_eq, List.drop_zero, Nat.sub_zero]
    rfl

theorem tokenR_c (S : ByteArray) (h0 : 0 < S.size) (hS : S.size ≤ 65536) (w : World) : Calls Tryz.prog 114 #[.string S] w (TokPost S w (readV S.data.toList)) := by
  cases hl : isLet S[0]
  · cases hd : isDig S[0]
    · by_cases hq : S[0] = 34
      · exact tokenR_str S h0 hS hl hd hq w
      · exact tokenR_sgn S h0 hS hl hd hq w
    · exact tokenR_dig S h0 hS hd w
  · exact tokenR_let S h0 hS hl w
end Go.Proofs.YtfjlkkohccihnabGreatDoor.Lx

/- A text's tokens one behind the other, as a relation; without a program in sight. -/
namespace Go.Proofs.YtfjlkkohccihnabGreatDoor.Lx

/-- The text l, which begins at the line li and the column co, has these tokens. -/
def ChainT : List Tok → List UInt8 → Nat → Nat → Prop
  | [], _, _, _ => False
  | a :: ts, l, li, co => (ts = [] ∧ ∃ li' co', skipV false l li co = ([], li', co') ∧ a = ⟨0, [], li', co'⟩) ∨
    ∃ r t rest li' co' k, skipV false l li co = (r, li', co') ∧ r ≠ [] ∧ readV r = .tok k t rest ∧ a = ⟨k, t, li', co'⟩ ∧ ChainT ts rest li' (co' + (r.length - rest.length))

def Chain (l : List UInt8) (li co : Nat) (ts : List Tok) : Prop := ChainT ts l li co

theorem Chain.fin {l : List UInt8} {li co li' co' : Nat} (h : skipV false l li co = ([], li', co')) : Chain l li co [⟨0, [], li', co'⟩] := .inl ⟨rfl, li', co', h, rfl⟩

theorem Chain.tok {l r t rest : List UInt8} {li co li' co' : Nat} {k : Int} {ts : List Tok} (h : skipV false l li co = (r, li', co')) (hr : r ≠ []) (he : readV r = .tok k t rest)
    (hc : Chain rest li' (co' + (r.length - rest.length)) ts) : Chain l li co (⟨k, t, li', co'⟩ :: ts) := .inr ⟨r, t, rest, li', co', k, h, hr, he, rfl, hc⟩

/-! What a token is. -/
end Go.Proofs.YtfjlkkohccihnabGreatDoor.Lx

/- Blanks between two texts, and tokens that are written anew; without a program in sight. -/
namespace Go.Proofs.YtfjlkkohccihnabGreatDoor.Lx

end Go.Proofs.YtfjlkkohccihnabGreatDoor.Lx

/- Places of tokens; without a program in sight. -/
namespace Go.Proofs.YtfjlkkohccihnabGreatDoor.Lx

def stepP (p : Nat × Nat) (b : UInt8) : Nat × Nat := if b = 10 then (p.1 + 1, 1) else (p.1, p.2 + 1)
def placeV (c : List UInt8) (p : Nat × Nat) : Nat × Nat := c.foldl stepP p
theorem placeV_append (c d : List UInt8) (p : Nat × Nat) : placeV (c ++ d) p = placeV d (placeV c p) := List.foldl_append ..

/-- Each token but a string stands in the text at its place: D is the text from the place p on. -/
def PlacedT : List Tok → List UInt8 → Nat × Nat → Prop
  | [], _, _ => False
  | t :: ts, D, p => (ts = [] ∧ t.text = [] ∧ placeV D p = (t.line, t.col)) ∨ ∃ d r, D = d ++ r ∧ placeV d p = (t.line, t.col) ∧ (t.kind ≠ 4 → t.text <+: r) ∧ PlacedT ts r (t.line, t.col)

def Placed (D : List UInt8) (p : Nat × Nat) (ts : List Tok) : Prop := PlacedT ts D p

theorem Placed.fin {D : List UInt8} {p : Nat × Nat} {li co : Nat} (h : placeV D p = (li, co)) : Placed D p [⟨0, [], li, co⟩] := .inl ⟨rfl, rfl, h⟩

theorem Placed.tok {D d r : List UInt8} {p : Nat × Nat} {t : Tok} {ts : List Tok} (h : D = d ++ r) (hp : placeV d p = (t.line, t.col)) (ht : t.kind ≠ 4 → t.text <+: r) (hc : Placed r (t.line, t.col) ts) : Placed D p (t :: ts) := .inr ⟨d, r, h, hp, ht, hc⟩

end Go.Proofs.YtfjlkkohccihnabGreatDoor.Lx
