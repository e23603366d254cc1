/- The predicates of bytes of package lex, and the row of bytes that belong, each by a contract. -/
import Derived.Test.YtgoppgopnhmhfaaDoorProg
import Derived.Test.YtgoppgopnhmhfaaDoorLexV
import Derived.KernelRfl
import Derived.WalkKit
import Derived.WalkLawsBesides
import Derived.LoopTactic
namespace Go.Proofs.YtgoppgopnhmhfaaDoor
open Go.RowKit

theorem hideP {p : Prop} (h : p) : Hid p := h

theorem ret_bool {x y : Bool} (h : x = y) : Ending.returned (.bool x) = .returned (.bool y) := by rw [h]

theorem startsName_c (b : UInt8) (w : World) : Calls Tryd.prog 25 #[.int .u8 b.toNat] w fun e w' => e = .returned (.bool (isLet b)) ∧ w' = w := by
  have hways : (b.toNat < 65) ∨ (65 ≤ b.toNat ∧ b.toNat ≤ 90) ∨ (90 < b.toNat ∧ b.toNat < 95) ∨ b.toNat = 95 ∨ b.toNat = 96 ∨ (97 ≤ b.toNat ∧ b.toNat ≤ 122) ∨ 122 < b.toNat := by omega
  unfold isLet
  generalize b.toNat = n at hways ⊢
  rcases hways with h | ⟨h1, h2⟩ | ⟨h1, h2⟩ | rfl | rfl | ⟨h1, h2⟩ | h
  · have e : ((n : Int) == 95) = false := by simp; omega
    go_enter Tryd.func25, Tryd.ntmps25
    go_wp2
    go_ret
    exact ⟨ret_bool (by first | rfl | (simp; done) | (simp; omega) | (rw [Bool.eq_iff_iff]; simp; omega)), rfl⟩
  · go_enter Tryd.func25, Tryd.ntmps25
    go_wp2
    go_ret
    exact ⟨ret_bool (by first | rfl | (simp; done) | (simp; omega) | (rw [Bool.eq_iff_iff]; simp; omega)), rfl⟩
  · have e : ((n : Int) == 95) = false := by simp; omega
    go_enter Tryd.func25, Tryd.ntmps25
    go_wp2
    go_ret
    exact ⟨ret_bool (by first | rfl | (simp; done) | (simp; omega) | (rw [Bool.eq_iff_iff]; simp; omega)), rfl⟩
  · go_enter Tryd.func25, Tryd.ntmps25
    go_wp2
    go_ret
    exact ⟨rfl, rfl⟩
  · go_enter Tryd.func25, Tryd.ntmps25
    go_wp2
    go_ret
    exact ⟨rfl, rfl⟩
  · go_enter Tryd.func25, Tryd.ntmps25
    go_wp2
    go_ret
    exact ⟨ret_bool (by first | rfl | (simp; done) | (simp; omega) | (rw [Bool.eq_iff_iff]; simp; omega)), rfl⟩
  · have e : ((n : Int) == 95) = false := by simp; omega
    go_enter Tryd.func25, Tryd.ntmps25
    go_wp2
    go_ret
    exact ⟨ret_bool (by first | rfl | (simp; done) | (simp; omega) | (rw [Bool.eq_iff_iff]; simp; omega)), rfl⟩

theorem isDigit_c (b : UInt8) (w : World) : Calls Tryd.prog 35 #[.int .u8 b.toNat] w fun e w' => e = .returned (.bool (isDig b)) ∧ w' = w := by
  have hways : (b.toNat < 48) ∨ (48 ≤ b.toNat ∧ b.toNat ≤ 57) ∨ 57 < b.toNat := by omega
  unfold isDig
  generalize b.toNat = n at hways ⊢
  rcases hways with h | ⟨h1, h2⟩ | h
  all_goals
    go_enter Tryd.func35, Tryd.ntmps35
    go_wp2
    go_ret
    exact ⟨ret_bool (by first | rfl | (simp; done) | (simp; omega) | (rw [Bool.eq_iff_iff]; simp; omega)), rfl⟩

theorem inName_c (b : UInt8) (w : World) : Calls Tryd.prog 27 #[.int .u8 b.toNat] w fun e w' => e = .returned (.bool (inNm b)) ∧ w' = w := by
  have s := startsName_c b
  have d := isDigit_c b
  unfold inNm
  cases h1 : isLet b
  · rw [h1] at s
    have S := hideP s
    have D := hideP d
    clear h1 s d
    go_enter Tryd.func27, Tryd.ntmps27
    go_wp2_with fail
    refine (S.out _).mono ?_
    rintro e w' ⟨rfl, rfl⟩
    go_wp2_with fail
    refine (D.out _).mono ?_
    rintro e w' ⟨rfl, rfl⟩
    go_wp2
    go_ret
    exact ⟨rfl, rfl⟩
  · rw [h1] at s
    have S := hideP s
    clear h1 s d
    go_enter Tryd.func27, Tryd.ntmps27
    go_wp2_with fail
    refine (S.out _).mono ?_
    rintro e w' ⟨rfl, rfl⟩
    go_wp2
    go_ret
    exact ⟨rfl, rfl⟩

theorem notLf_c (b : UInt8) (w : World) : Calls Tryd.prog 33 #[.int .u8 b.toNat] w fun e w' => e = .returned (.bool (notLf b)) ∧ w' = w := by
  unfold notLf
  generalize b.toNat = n
  by_cases h : n = 10
  · subst h
    go_enter Tryd.func33, Tryd.ntmps33
    go_wp2
    go_ret
    exact ⟨rfl, rfl⟩
  · have e : ((n : Int) == 10) = false := by simp; omega
    go_enter Tryd.func33, Tryd.ntmps33
    go_wp2
    go_ret
    exact ⟨ret_bool (by simp [h]; omega), rfl⟩
end Go.Proofs.YtgoppgopnhmhfaaDoor
