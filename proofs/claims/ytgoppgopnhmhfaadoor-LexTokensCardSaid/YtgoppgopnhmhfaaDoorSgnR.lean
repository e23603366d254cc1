/- gradusref02.sign by a contract: how long the sign is that a text begins with. -/
import Derived.Test.YtgoppgopnhmhfaaDoorAwakeL
import Derived.BigQuiet
namespace Go.Proofs.YtgoppgopnhmhfaaDoor
open Go.RowKit

/-- The sign of two bytes with this number. -/
def twoB (i : Nat) : ByteArray := ⟨#[(twoV.getD i (0, 0)).1, (twoV.getD i (0, 0)).2]⟩

theorem extract_two {S : ByteArray} (h : 2 ≤ S.size) : S.extract 0 2 = ⟨#[S[0], S[1]]⟩ := by
  rw [extract_eq, List.drop_zero]
  have e := byteArray_drop S 0 (by omega)
  rw [List.drop_zero, byteArray_drop S 1 (by omega)] at e
  rw [e]
  rfl

theorem list_two {S : ByteArray} (h : 2 ≤ S.size) : S.data.toList = S[0] :: S[1] :: S.data.toList.drop 2 := by
  have e := byteArray_drop S 0 (by omega)
  rw [List.drop_zero, byteArray_drop S 1 (by omega)] at e
  exact e

theorem two_mem (a b : UInt8) : twoV.contains (a, b) = true ↔ ∃ i, i < 8 ∧ (⟨#[a, b]⟩ : ByteArray) = twoB i := by
  rw [List.contains_iff_mem]
  constructor
  · intro h
    obtain ⟨i, hi, e⟩ := List.mem_iff_getElem.1 h
    refine ⟨i, hi, ?_⟩
    unfold twoB
    rw [List.getD_eq_getElem?_getD, List.getElem?_eq_getElem hi, Option.getD_some, e]
  · rintro ⟨i, hi, e⟩
    unfold twoB at e
    rw [List.getD_eq_getElem?_getD, List.getElem?_eq_getElem (show i < twoV.length from hi), Option.getD_some] at e
    simp only [ByteArray.mk.injEq, Array.mk.injEq, List.cons.injEq, and_true] at e
    have : (a, b) = twoV[i]'hi := by rw [e.1, e.2]; rfl
    rw [this]
    exact List.getElem_mem ..

/-- None of the first k signs of two bytes stands there. -/
def noTwo (S : ByteArray) (k : Nat) : Prop := ∀ i, i < k → ¬ (2 ≤ S.size ∧ S.extract 0 2 = twoB i)

theorem sgnR_two {S : ByteArray} {i : Nat} (h : 2 ≤ S.size) (hi : i < 8) (e : S.extract 0 2 = twoB i) : signV S.data.toList = 2 := by
  rw [extract_two h] at e
  rw [list_two h, signV, if_pos ((two_mem _ _).2 ⟨i, hi, e⟩)]

theorem sgnR_one {S : ByteArray} (h : 0 < S.size) (hn : noTwo S 8) : signV S.data.toList = if oneV.contains S[0] then 1 else 0 := by
  by_cases h2 : 2 ≤ S.size
  · rw [list_two h2, signV, if_neg]
    rw [two_mem]
    rintro ⟨i, hi, e⟩
    exact hn i hi ⟨h2, by rw [extract_two h2]; exact e⟩
  · have e := byteArray_drop S 0 h
    rw [List.drop_zero, List.drop_eq_nil_of_le (by rw [byteArray_len]; omega)] at e
    rw [e, signV]

/-- None of the first k signs of one byte is it. -/
def noOne (O : ByteArray) (b : UInt8) (k : Nat) : Prop := ∀ i (h : i < O.size), i < k → b ≠ O[i]

theorem one_no {O : ByteArray} {b : UInt8} (hO : O.data.toList = oneV) (h : noOne O b O.size) : oneV.contains b = false := by
  rw [Bool.eq_false_iff]
  intro hc
  rw [List.contains_iff_mem, ← hO] at hc
  obtain ⟨i, hi, e⟩ := List.mem_iff_getElem.1 hc
  have hi' : i < O.size := by rw [← byteArray_len]; exact hi
  exact h i hi' hi' e.symm

theorem one_yes {O : ByteArray} {b : UInt8} {i : Nat} (hO : O.data.toList = oneV) (hi : i < O.size) (e : b = O[i]) : oneV.contains b = true := by
  rw [List.contains_iff_mem, ← hO, e]
  have hi' : i < O.data.toList.length := by rw [byteArray_len]; exact hi
  exact List.getElem_mem hi'

theorem below_drewN' {B : Nat} {a w : World} (h : Below B a w) (n : Nat) : Below B a (w.drewN n) := ⟨h.os, h.tape, h.output, h.size, h.block⟩

theorem two_cells (w : World) (ty : TypeId) : ∀ i, i < 8 → (w.alloc (.cells #[.string { data := #[45, 62] }, .string { data := #[61, 62] }, .string { data := #[60, 58] }, .string { data := #[60, 60] }, .string { data := #[60, 61] }, .string { data := #[62, 62] }, .string { data := #[61, 61] }, .string { data := #[43, 43] }] ty)).cell? ⟨w.heap.size, i, none⟩ = some (.string (twoB i)) := by
  intro i hi
  rw [cell_of_row _ _ i _ ty (0, 0) (heap_alloc_last w _)]
  match i, hi with
  | 0, _ => rfl
  | 1, _ => rfl
  | 2, _ => rfl
  | 3, _ => rfl
  | 4, _ => rfl
  | 5, _ => rfl
  | 6, _ => rfl
  | 7, _ => rfl

set_option maxHeartbeats 4000000 in
set_option maxRecDepth 100000 in
theorem signRef_c (S : ByteArray) (h0 : 0 < S.size) (hS : S.size ≤ 65536) (w : World) : Calls Tryd.prog 41 #[.string S] w fun e w' => e = .returned (.int .i64 (signV S.data.toList)) ∧ Below w.heap.size w w' := by
  obtain ⟨r, hr⟩ : ∃ r, r = signV S.data.toList := ⟨_, rfl⟩
  rw [← hr]
  have HR := hideP hr
  clear hr
  have hcell := two_cells w 9
  have hbl := bl_alloc w (.cells #[.string { data := #[45, 62] }, .string { data := #[61, 62] }, .string { data := #[60, 58] }, .string { data := #[60, 60] }, .string { data := #[60, 61] }, .string { data := #[62, 62] }, .string { data := #[61, 61] }, .string { data := #[43, 43] }] 9)
  have h0I : (0 : Int) < (S.size : Int) := by omega
  obtain ⟨O, hO⟩ : ∃ O : ByteArray, O = { data := #[40, 41, 123, 125, 91, 93, 44, 58, 59, 61, 43, 45, 42, 47, 37, 38, 94, 60, 124, 46] } := ⟨_, rfl⟩
  have hOs : O.size = 20 := by rw [hO]; rfl
  have HOL : Hid (O.data.toList = oneV) := by show _ = _; rw [hO]; rfl
  have HO := hideP hO
  have HOS := hideP hOs
  clear hO
  go_enter Tryd.func41, Tryd.ntmps41
  go_wp2
  generalize hw1 : w.alloc _ = w1 at hcell hbl ⊢
  have HC := hideP hcell
  have HB := hideP hbl
  clear hcell hbl hw1
  go_loopw [4] (fun i wr => ∃ k n : Nat, k ≤ 8 ∧ i = .int .i64 k ∧ wr = w1.drewN n ∧ Hid (noTwo S k)) (fun i _ => 8 - (intOf i).toNat)
  case atStart => exact ⟨0, 0, by omega, rfl, rfl, fun i hi => by omega⟩
  case round =>
    obtain ⟨k, n, hk, rfl, rfl, hno⟩ := hrel
    by_cases hlt : k < 8
    · have hkI : (k : Int) < 8 := by omega
      have c := HC.out k hlt
      obtain ⟨U, hU⟩ : ∃ U, U = twoB k := ⟨_, rfl⟩
      rw [← hU] at c
      have HU := hideP hU
      clear hU
      by_cases h2 : 2 ≤ S.size
      · have h2I : (2 : Int) ≤ (S.size : Int) := by omega
        cases hq : ((S.extract 0 2).toList == U.toList)
        · have hno' : Hid (noTwo S (k + 1)) := fun i hi => by
            by_cases hik : i = k
            · subst hik; rw [← HU.out]; exact fun h => str_ne hq h.2
            · exact hno.out i (by omega)
          go_wp2
          go_quiet (fail)
          go_wp2
          go_roundw
          case rel => exact ⟨k + 1, _, by omega, by go_num, rfl, hno'⟩
          case measure => simp [intOf]; omega
        · have e : r = 2 := by
            rw [HR.out]
            exact sgnR_two h2 hlt ((str_eq.1 hq).trans HU.out)
          subst e
          go_wp2
          go_quiet (fail)
          go_wp2
          go_ret
          exact ⟨rfl, by first | exact below_drewN' HB.out _ | exact below_drewN' (below_drewN' HB.out _) _⟩
      · have h2I : decide ((2 : Int) ≤ (S.size : Int)) = false := by simp; omega
        have hno' : Hid (noTwo S (k + 1)) := fun i hi h => h2 h.1
        go_wp2
        go_quiet (fail)
        go_wp2
        go_roundw
        case rel => exact ⟨k + 1, _, by omega, by go_num, rfl, hno'⟩
        case measure => simp [intOf]; omega
    · have hs1 := hideP (sgnR_one h0 (fun i hi => hno.out i (by omega)))
      go_wp2
      rw [← HO.out]
      go_loopw [6] (fun i wr => ∃ k n : Nat, k ≤ 20 ∧ i = .int .i64 k ∧ wr = w1.drewN n ∧ Hid (noOne O S[0] k)) (fun i _ => 20 - (intOf i).toNat)
      case atStart => exact ⟨0, _, by omega, rfl, rfl, fun i _ hi => by omega⟩
      case round =>
        obtain ⟨j, n2, hj, rfl, rfl, hno2⟩ := hrel
        by_cases hltj : j < 20
        · have hjs : j < O.size := by omega
          have hjI : (j : Int) < (O.size : Int) := by omega
          by_cases hq : S[0].toNat = O[j].toNat
          · have p : ((S[0].toNat : Int) == (O[j].toNat : Int)) = true := by simp; omega
            have e : r = 1 := by
              rw [HR.out, hs1.out, one_yes HOL.out hjs (UInt8.toNat_inj.1 hq)]
              rfl
            subst e
            clear hq
            go_wp2
            go_quiet (fail)
            go_wp2
            go_ret
            exact ⟨rfl, by first | exact below_drewN' HB.out _ | exact below_drewN' (below_drewN' HB.out _) _⟩
          · have p : ((S[0].toNat : Int) == (O[j].toNat : Int)) = false := by simp; omega
            have hno' : Hid (noOne O S[0] (j + 1)) := fun i hi hik => by
              by_cases e : i = j
              · subst e; exact fun e2 => hq (by rw [e2])
              · exact hno2.out i hi (by omega)
            clear hq
            go_wp2
            go_quiet (fail)
            go_wp2
            go_roundw
            case rel => exact ⟨j + 1, _, by omega, by go_num, rfl, hno'⟩
            case measure => simp [intOf]; omega
        · have hjI : ¬ (j : Int) < (O.size : Int) := by omega
          have e : r = 0 := by
            rw [HR.out, hs1.out, one_no HOL.out (fun i hi _ => hno2.out i hi (by omega))]
            rfl
          subst e
          go_wp2
          go_ret
          exact ⟨rfl, by first | exact below_drewN' HB.out _ | exact below_drewN' (below_drewN' HB.out _) _⟩
end Go.Proofs.YtgoppgopnhmhfaaDoor
