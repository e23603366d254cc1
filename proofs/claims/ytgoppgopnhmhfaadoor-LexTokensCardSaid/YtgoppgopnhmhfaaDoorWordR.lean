/- gradusref02.Words, word and Name, each by a contract. -/
import Derived.Test.YtgoppgopnhmhfaaDoorBytesR
import Derived.Test.YtgoppgopnhmhfaaDoorAwakeL
namespace Go.Proofs.YtgoppgopnhmhfaaDoor
open Go.RowKit

set_option maxRecDepth 100000 in
theorem wordsR_c (w : World) : Calls Tryd.prog 14 #[] w fun e w' => e = .returned (.slice (some ⟨w.heap.size, 0, none⟩) 25 25) ∧ Below w.heap.size w w' ∧ ∀ i, i < 25 → w'.cell? ⟨w.heap.size, i, none⟩ = some (.string (wordB i)) := by
  go_enter Tryd.func14, Tryd.ntmps14
  go_wp2
  go_ret
  refine ⟨rfl, bl_alloc w _, ?_⟩
  intro i hi
  rw [cell_of_row _ _ i _ _ (0, 0) (heap_alloc_last w _)]
  match i, hi with
  | 0, _ => rfl
  | 1, _ => rfl
  | 2, _ => rfl
  | 3, _ => rfl
  | 4, _ => rfl
  | 5, _ => rfl
  | 6, _ => rfl
  | 7, _ => rfl
  | 8, _ => rfl
  | 9, _ => rfl
  | 10, _ => rfl
  | 11, _ => rfl
  | 12, _ => rfl
  | 13, _ => rfl
  | 14, _ => rfl
  | 15, _ => rfl
  | 16, _ => rfl
  | 17, _ => rfl
  | 18, _ => rfl
  | 19, _ => rfl
  | 20, _ => rfl
  | 21, _ => rfl
  | 22, _ => rfl
  | 23, _ => rfl
  | 24, _ => rfl
  | n + 25, h => exact absurd h (by omega)

set_option maxHeartbeats 2000000 in
set_option maxRecDepth 100000 in
theorem wordR_c (s : ByteArray) (w : World) : Calls Tryd.prog 29 #[.string s] w fun e w' => e = .returned (.bool (wordsV.contains s.data.toList)) ∧ Below w.heap.size w w' := by
  obtain ⟨b, hb⟩ : ∃ b, b = wordsV.contains s.data.toList := ⟨_, rfl⟩
  rw [← hb]
  have HB := hideP hb
  clear hb
  go_enter Tryd.func29, Tryd.ntmps29
  go_wp2_with fail
  refine (wordsR_c _).mono ?_
  rintro e w1 ⟨rfl, hb1, hc⟩
  have HB1 := hideP hb1
  have HC := hideP hc
  clear hb1 hc
  go_wp2
  go_loop [4] (fun i => ∃ k : Nat, k ≤ 25 ∧ i = .int .i64 k ∧ Hid (noWord s k)) (fun i => 25 - (intOf i).toNat)
  case atStart => exact ⟨0, by omega, rfl, fun i hi => by omega⟩
  case round =>
    obtain ⟨k, hk, rfl, hno⟩ := hrel
    by_cases hlt : k < 25
    · have hck := HC.out k hlt
      obtain ⟨t, ht⟩ : ∃ t, t = wordB k := ⟨_, rfl⟩
      rw [← ht] at hck
      have HT := hideP ht
      clear ht
      have hkI : (k : Int) < 25 := by omega
      cases hq : (t.toList == s.toList)
      · have hno' : Hid (noWord s (k + 1)) := fun i hi => by
          by_cases hik : i = k
          · subst hik; rw [← HT.out]; exact (str_ne hq).symm
          · exact hno.out i (by omega)
        go_wp2
        go_round
        case rel => exact ⟨k + 1, by omega, by go_num, hno'⟩
        case measure => simp [intOf]; omega
      · have e : b = true := by
          rw [HB.out]
          exact (words_mem s).2 ⟨k, hlt, (str_eq.1 hq).symm.trans HT.out⟩
        subst e
        go_wp2
        go_ret
        exact ⟨rfl, HB1.out⟩
    · have e : b = false := by
        rw [HB.out, Bool.eq_false_iff]
        intro h
        obtain ⟨i, hi, e⟩ := (words_mem s).1 h
        exact hno.out i (by omega) e
      subst e
      go_wp2
      go_ret
      exact ⟨rfl, HB1.out⟩

theorem let_dig {b : UInt8} (h : isDig b = true) : isLet b = false := by
  unfold isDig at h
  unfold isLet
  simp at h ⊢
  omega

/-- The first k bytes may stand in a name. -/
def nmTo (S : ByteArray) (k : Nat) : Prop := ∀ i (h : i < S.size), i < k → inNm S[i] = true

theorem nm_all {S : ByteArray} (h : nmTo S S.size) : S.data.toList.all inNm = true := by
  rw [List.all_eq_true]
  intro b hb
  obtain ⟨i, hi, e⟩ := List.mem_iff_getElem.1 hb
  have hi' : i < S.size := by rw [← byteArray_len]; exact hi
  have := h i hi' hi'
  rw [← e]
  exact this

theorem nm_not {S : ByteArray} {k : Nat} (hk : k < S.size) (h : inNm S[k] = false) : S.data.toList.all inNm = false := by
  rw [Bool.eq_false_iff]
  intro ha
  rw [List.all_eq_true] at ha
  have := ha S[k] (by
    have hk' : k < S.data.toList.length := by rw [byteArray_len]; exact hk
    exact List.getElem_mem hk')
  rw [h] at this
  cases this

set_option maxHeartbeats 4000000 in
set_option maxRecDepth 100000 in
theorem nameR_c (S : ByteArray) (hS : S.size ≤ 140737488351232) (w : World) : Calls Tryd.prog 16 #[.string S] w fun e w' => e = .returned (.bool (nameV S.data.toList)) ∧ Below w.heap.size w w' := by
  have hw := wordR_c S
  by_cases hz : S.size = 0
  · have z1 : ((S.size : Int) == 0) = true := by rw [beq_iff_eq]; omega
    rw [nameV_empty hz]
    generalize wordsV.contains S.data.toList = b at hw
    have HW := hideP hw
    clear hw hz
    go_enter Tryd.func16, Tryd.ntmps16
    go_wp2_with fail
    refine (HW.out _).mono ?_
    rintro e w1 ⟨rfl, hb1⟩
    have HB1 := hideP hb1
    clear hb1
    go_wp2
    go_ret
    exact ⟨rfl, HB1.out⟩
  have h0 : 0 < S.size := by omega
  have z1 : ((S.size : Int) == 0) = false := by rw [beq_eq_false_iff_ne]; omega
  rw [nameV_cons h0]
  by_cases hl : 32 < S.size
  · have hd : decide (S.size ≤ 32) = false := by simp; omega
    rw [hd]
    simp only [Bool.false_and]
    generalize wordsV.contains S.data.toList = b at hw
    have HW := hideP hw
    clear hw hz hd
    have hlI : (32 : Int) < (S.size : Int) := by omega
    go_enter Tryd.func16, Tryd.ntmps16
    go_wp2_with fail
    refine (HW.out _).mono ?_
    rintro e w1 ⟨rfl, hb1⟩
    have HB1 := hideP hb1
    clear hb1
    go_wp2
    go_ret
    exact ⟨rfl, HB1.out⟩
  have hd : decide (S.size ≤ 32) = true := by simp; omega
  rw [hd]
  have hlI : ¬ (32 : Int) < (S.size : Int) := by omega
  have h0I : (0 : Int) < (S.size : Int) := by omega
  clear hd hz
  cases hq : wordsV.contains S.data.toList
  case true =>
    rw [hq] at hw
    have HW := hideP hw
    clear hw hq
    simp only [Bool.not_true, Bool.and_false]
    go_enter Tryd.func16, Tryd.ntmps16
    go_wp2_with fail
    refine (HW.out _).mono ?_
    rintro e w1 ⟨rfl, hb1⟩
    have HB1 := hideP hb1
    clear hb1
    go_wp2
    go_ret
    exact ⟨rfl, HB1.out⟩
  case false =>
    rw [hq] at hw
    have HW := hideP hw
    clear hw hq
    have hdg := digitR_c S[0]
    cases hd0 : isDig S[0]
    case true =>
      rw [hd0] at hdg
      rw [let_dig hd0]
      have HD := hideP hdg
      clear hdg hd0
      simp only [Bool.false_and, Bool.and_false]
      go_enter Tryd.func16, Tryd.ntmps16
      go_wp2_with fail
      refine (HW.out _).mono ?_
      rintro e w1 ⟨rfl, hb1⟩
      have HB1 := hideP hb1
      clear hb1
      go_wp2_with fail
      refine (HD.out _).mono ?_
      rintro e w' ⟨rfl, rfl⟩
      go_wp2
      go_ret
      exact ⟨rfl, HB1.out⟩
    case false =>
      rw [hd0] at hdg
      have HD := hideP hdg
      have HD0 := hideP hd0
      clear hdg hd0
      obtain ⟨r, hr⟩ : ∃ r, r = (true && isLet S[0] && S.data.toList.all inNm && !false) := ⟨_, rfl⟩
      rw [← hr]
      have HR := hideP hr
      clear hr
      go_enter Tryd.func16, Tryd.ntmps16
      go_wp2_with fail
      refine (HW.out _).mono ?_
      rintro e w1 ⟨rfl, hb1⟩
      have HB1 := hideP hb1
      clear hb1
      go_wp2_with fail
      refine (HD.out _).mono ?_
      rintro e w' ⟨rfl, rfl⟩
      go_wp2
      go_loop [4] (fun i => ∃ k : Nat, k ≤ S.size ∧ i = .int .i64 k ∧ Hid (nmTo S k)) (fun i => S.size - (intOf i).toNat)
      case atStart => exact ⟨0, Nat.zero_le _, rfl, fun i _ hi => by omega⟩
      case round =>
        obtain ⟨k, hk, rfl, hnm⟩ := hrel
        by_cases hlt : k < S.size
        · have hltI : (k : Int) < (S.size : Int) := by omega
          have hl1 := letterR_c S[k]
          have hd1 := digitR_c S[k]
          cases ha : isLet S[k] <;> cases hb : isDig S[k]
          case false.false =>
            rw [ha] at hl1
            rw [hb] at hd1
            have e : r = false := by
              rw [HR.out, nm_not hlt (by simp [inNm, ha, hb])]
              simp
            have HL1 := hideP hl1
            have HD1 := hideP hd1
            clear hl1 hd1 ha hb
            subst e
            go_wp2_with fail
            refine (HL1.out _).mono ?_
            rintro e w' ⟨rfl, rfl⟩
            go_wp2_with fail
            refine (HD1.out _).mono ?_
            rintro e w' ⟨rfl, rfl⟩
            go_wp2
            go_ret
            exact ⟨rfl, HB1.out⟩
          all_goals
            rw [ha] at hl1
            rw [hb] at hd1
            have hin : inNm S[k] = true := by simp [inNm, ha, hb]
            have N : Hid (nmTo S (k + 1)) := fun i hi hik => by
              by_cases e : i = k
              · subst e; exact hin
              · exact hnm.out i hi (by omega)
            have HL1 := hideP hl1
            have HD1 := hideP hd1
            clear hl1 hd1 ha hb hin
            go_wp2_with fail
            refine (HL1.out _).mono ?_
            rintro e w' ⟨rfl, rfl⟩
            go_wp2_with fail
            refine (HD1.out _).mono ?_
            rintro e w' ⟨rfl, rfl⟩
            go_wp2
            go_round
            case rel => exact ⟨k + 1, by omega, by go_num, N⟩
            case measure => simp [intOf]; omega
        · have e : r = true := by
            have hall : nmTo S S.size := fun i hi _ => hnm.out i hi (by omega)
            have h1 := hall 0 h0 h0
            have h2 := HD0.out
            unfold inNm at h1
            rw [h2, Bool.or_false] at h1
            rw [HR.out, nm_all hall, h1]
            rfl
          subst e
          go_wp2
          go_ret
          exact ⟨rfl, HB1.out⟩
end Go.Proofs.YtgoppgopnhmhfaaDoor
