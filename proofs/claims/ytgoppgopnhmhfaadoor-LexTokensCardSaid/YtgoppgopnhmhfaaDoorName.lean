/- lex.Name and lex.Words, each by a contract. -/
import Derived.Test.YtgoppgopnhmhfaaDoorLex
namespace Go.Proofs.YtgoppgopnhmhfaaDoor
open Go.RowKit

theorem nameV_empty {S : ByteArray} (h : S.size = 0) : nameV S.data.toList = false := by
  have : S.data.toList = [] := List.eq_nil_of_length_eq_zero (by rw [byteArray_len]; exact h)
  rw [this]
  rfl

theorem nameV_cons {S : ByteArray} (h : 0 < S.size) : nameV S.data.toList = (decide (S.size ≤ 32) && isLet S[0] && S.data.toList.all inNm && !wordsV.contains S.data.toList) := by
  have e := byteArray_drop S 0 h
  rw [List.drop_zero] at e
  have hl := byteArray_len S
  rw [e] at hl
  conv => lhs; rw [e]
  rw [nameV, hl, ← e]

theorem row_all (S : ByteArray) (p : UInt8 → Bool) : (rowV S 0 p = S.size) ↔ S.data.toList.all p = true := by
  unfold rowV
  rw [List.drop_zero, ← byteArray_len, Nat.zero_add]
  generalize S.data.toList = l
  induction l with
  | nil => simp
  | cons b r ih =>
    by_cases h : p b = true
    · rw [List.takeWhile_cons_of_pos h]
      simp [h, ← ih]
    · rw [List.takeWhile_cons_of_neg h]
      simp [h]

set_option maxHeartbeats 1000000 in
theorem name_c (S : ByteArray) (hS : S.size ≤ 140737488351232) (w : World) (hw : Words w) : Calls Tryd.prog 15 #[.string S] w fun e w' => e = .returned (.bool (nameV S.data.toList)) ∧ w' = w := by
  by_cases hz : S.size = 0
  · have he : S.toList.isEmpty = true := by rw [toList_isEmpty]; simp [hz]
    rw [nameV_empty hz]
    clear hw
    go_enter Tryd.func15, Tryd.ntmps15
    go_wp2
    go_ret
    exact ⟨rfl, rfl⟩
  have h0 : 0 < S.size := by omega
  have he : S.toList.isEmpty = false := by rw [toList_isEmpty]; simp [hz]
  rw [nameV_cons h0]
  by_cases hl : 32 < S.size
  · have hd : decide (S.size ≤ 32) = false := by simp; omega
    rw [hd]
    clear hd hw
    go_enter Tryd.func15, Tryd.ntmps15
    go_wp2
    go_ret
    exact ⟨rfl, rfl⟩
  have hd : decide (S.size ≤ 32) = true := by simp; omega
  rw [hd]
  clear hd hz
  have hst := startsName_c S[0]
  cases hb : isLet S[0]
  · rw [hb] at hst
    have HST := hideP hst
    clear hst hb hw
    simp only [Bool.and_false, Bool.false_and]
    go_enter Tryd.func15, Tryd.ntmps15
    go_wp2_with fail
    refine (HST.out _).mono ?_
    rintro e w' ⟨rfl, rfl⟩
    go_wp2
    go_ret
    exact ⟨rfl, rfl⟩
  rw [hb] at hst
  have HST := hideP hst
  have hrow := rowEnd_name S hS 0 (by omega)
  have hall := row_all S inNm
  have hwd := fun w h => isWord_c S w h
  have HW := hideP hw
  obtain ⟨r, hr⟩ : ∃ r, r = rowV S 0 inNm := ⟨_, rfl⟩
  rw [← hr] at hrow hall
  have HROW := hideP hrow
  have hrle : r ≤ S.size := by rw [hr]; exact rowV_le S 0 inNm (by omega)
  clear hst hb hrow hr hw
  cases ha : S.data.toList.all inNm
  · have hne : ((r : Int) == (S.size : Int)) = false := by
      have : r ≠ S.size := fun e => by rw [hall.1 e] at ha; cases ha
      simp
      omega
    clear hall ha hwd
    simp only [Bool.and_false, Bool.false_and]
    go_enter Tryd.func15, Tryd.ntmps15
    go_wp2_with fail
    refine (HST.out _).mono ?_
    rintro e w' ⟨rfl, rfl⟩
    go_wp2_with fail
    refine (HROW.out _).mono ?_
    rintro e w' ⟨rfl, rfl⟩
    go_wp2
    go_ret
    exact ⟨rfl, rfl⟩
  · have heq : ((r : Int) == (S.size : Int)) = true := by
      have := hall.2 ha
      simp
      omega
    cases hq : wordsV.contains S.data.toList
    · rw [hq] at hwd
      have HWD := hideP hwd
      clear hall ha hwd hq
      go_enter Tryd.func15, Tryd.ntmps15
      go_wp2_with fail
      refine (HST.out _).mono ?_
      rintro e w' ⟨rfl, rfl⟩
      go_wp2_with fail
      refine (HROW.out _).mono ?_
      rintro e w' ⟨rfl, rfl⟩
      go_wp2_with fail
      refine (HWD.out _ HW.out).mono ?_
      rintro e w' ⟨rfl, rfl⟩
      go_wp2
      go_ret
      exact ⟨rfl, rfl⟩
    · rw [hq] at hwd
      have HWD := hideP hwd
      clear hall ha hwd hq
      go_enter Tryd.func15, Tryd.ntmps15
      go_wp2_with fail
      refine (HST.out _).mono ?_
      rintro e w' ⟨rfl, rfl⟩
      go_wp2_with fail
      refine (HROW.out _).mono ?_
      rintro e w' ⟨rfl, rfl⟩
      go_wp2_with fail
      refine (HWD.out _ HW.out).mono ?_
      rintro e w' ⟨rfl, rfl⟩
      go_wp2
      go_ret
      exact ⟨rfl, rfl⟩

/-- The tokens of a list that Lex made, cell by cell. -/
theorem tokCells_at (ts : List Tok) (i : Nat) (hi : i < ts.length) (o : Nat) (ho : o < 4) : (tokCells ts)[4 * i + o]? = ts[i].cells[o]? := by
  induction ts generalizing i with
  | nil => simp at hi
  | cons t r ih =>
    show (t.cells ++ tokCells r)[4 * i + o]? = _
    cases i with
    | zero =>
      rw [List.getElem?_append_left (by simp [Tok.cells]; omega)]
      simp
    | succ i =>
      rw [List.getElem?_append_right (by simp [Tok.cells]; omega)]
      have := ih i (by simpa using hi)
      rw [show 4 * (i + 1) + o - t.cells.length = 4 * i + o from by simp [Tok.cells]; omega, this]
      simp

theorem tok_at {w : World} {B e g cap n : Nat} {ts : List Tok} (h : w.ownsRow B e 4 (.slice (some ⟨g, 0, none⟩) n cap) n (tokCells ts)) (i : Nat) (hi : i < ts.length) :
    w.cell? ⟨g, 4 * i, none⟩ = some (.int .i64 ts[i].kind) ∧ w.cell? ⟨g, 4 * i + 1, none⟩ = some (.string ⟨ts[i].text.toArray⟩) ∧ w.cell? ⟨g, 4 * i + 2, none⟩ = some (.int .i64 ts[i].line) ∧ w.cell? ⟨g, 4 * i + 3, none⟩ = some (.int .i64 ts[i].col) := by
  have hc : ∀ o u, o < 4 → ts[i].cells[o]? = some u → w.cell? ⟨g, 4 * i + o, none⟩ = some u := by
    intro o u ho hu
    have := h.cells (g := g) rfl (4 * i + o) u (by rw [tokCells_at ts i hi o ho]; exact hu)
    have hadd : (⟨g, 0, none⟩ : Addr).add (4 * i + o) = ⟨g, 0 + (4 * i + o), none⟩ := by unfold Addr.add; split <;> simp_all
    rw [hadd, Nat.zero_add] at this
    exact this
  exact ⟨hc 0 _ (by omega) rfl, hc 1 _ (by omega) rfl, hc 2 _ (by omega) rfl, hc 3 _ (by omega) rfl⟩

theorem tok_lt {w : World} {B e g cap n : Nat} {ts : List Tok} (h : w.ownsRow B e 4 (.slice (some ⟨g, 0, none⟩) n cap) n (tokCells ts)) (hn : 0 < ts.length) : g < w.heap.size :=
  World.block_lt_of_cell? w _ (tok_at h 0 hn).1
end Go.Proofs.YtgoppgopnhmhfaaDoor
