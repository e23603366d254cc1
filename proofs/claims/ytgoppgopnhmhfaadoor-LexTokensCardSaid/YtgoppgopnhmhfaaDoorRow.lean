/- (*scanner).row by a contract. -/
import Derived.Test.YtgoppgopnhmhfaaDoorIsWord
namespace Go.Proofs.YtgoppgopnhmhfaaDoor
open Go.RowKit

theorem extract_eq (S : ByteArray) (i j : Nat) : S.extract i j = ⟨((S.data.toList.drop i).take (j - i)).toArray⟩ := by
  apply ByteArray.ext
  rw [ByteArray.data_extract]
  apply Array.toList_inj.1
  rw [Array.toList_extract]

theorem take_row (p : UInt8 → Bool) (l : List UInt8) : l.take (l.takeWhile p).length = l.takeWhile p := by
  induction l with
  | nil => rfl
  | cons b r ih =>
    by_cases h : p b = true
    · rw [List.takeWhile_cons_of_pos h, List.length_cons, List.take_succ_cons, ih]
    · rw [List.takeWhile_cons_of_neg h]; rfl

theorem extract_row (S : ByteArray) (k : Nat) (p : UInt8 → Bool) : S.extract k (rowV S k p) = ⟨((S.data.toList.drop k).takeWhile p).toArray⟩ := by
  rw [extract_eq]
  unfold rowV
  rw [Nat.add_sub_cancel_left, take_row]

set_option maxHeartbeats 1000000 in
set_option maxRecDepth 100000 in
theorem row_name (S : ByteArray) (hS : S.size ≤ 65536) (sb mb k li ls : Nat) (hk : k ≤ S.size) (w : World) (hsc : Scan w sb S k li ls mb) :
    Calls Tryd.prog 34 #[.pointer (some ⟨sb, 0, none⟩), .func (.func 27) #[] #[]] w fun e w' => e = .returned (.string ⟨((S.data.toList.drop k).takeWhile inNm).toArray⟩) ∧
      Scan w' sb S (rowV S k inNm) li ls mb ∧ w.grownBy w' (some sb) := by
  have hle := rowV_le S k inNm hk
  have hge : k ≤ rowV S k inNm := by unfold rowV; omega
  have hc := rowEnd_name S (by omega) k hk
  obtain ⟨r, hr⟩ : ∃ r, r = rowV S k inNm := ⟨_, rfl⟩
  rw [← hr] at hle hge hc ⊢
  have HC := hideP hc
  have HR := hideP hr
  have HS := hideP hsc
  have c0 := hsc.c0
  have c1 := hsc.c1
  have f1 := hsc.fz 1
  clear hc hr hsc
  go_enter Tryd.func34, Tryd.ntmps34
  go_wp2_with fail
  refine (HC.out _).mono ?_
  rintro e w' ⟨rfl, rfl⟩
  go_wp2
  go_quiet (fail)
  go_wp2
  go_ret
  refine ⟨?_, HS.out.set1 r, grown_drewN (grown_set (World.grownBy.refl _ _) _ _) _⟩
  rw [← extract_row, ← HR.out]
  rfl

set_option maxHeartbeats 1000000 in
set_option maxRecDepth 100000 in
theorem row_digit (S : ByteArray) (hS : S.size ≤ 65536) (sb mb k li ls : Nat) (hk : k ≤ S.size) (w : World) (hsc : Scan w sb S k li ls mb) :
    Calls Tryd.prog 34 #[.pointer (some ⟨sb, 0, none⟩), .func (.func 35) #[] #[]] w fun e w' => e = .returned (.string ⟨((S.data.toList.drop k).takeWhile isDig).toArray⟩) ∧
      Scan w' sb S (rowV S k isDig) li ls mb ∧ w.grownBy w' (some sb) := by
  have hle := rowV_le S k isDig hk
  have hge : k ≤ rowV S k isDig := by unfold rowV; omega
  have hc := rowEnd_digit S (by omega) k hk
  obtain ⟨r, hr⟩ : ∃ r, r = rowV S k isDig := ⟨_, rfl⟩
  rw [← hr] at hle hge hc ⊢
  have HC := hideP hc
  have HR := hideP hr
  have HS := hideP hsc
  have c0 := hsc.c0
  have c1 := hsc.c1
  have f1 := hsc.fz 1
  clear hc hr hsc
  go_enter Tryd.func34, Tryd.ntmps34
  go_wp2_with fail
  refine (HC.out _).mono ?_
  rintro e w' ⟨rfl, rfl⟩
  go_wp2
  go_quiet (fail)
  go_wp2
  go_ret
  refine ⟨?_, HS.out.set1 r, grown_drewN (grown_set (World.grownBy.refl _ _) _ _) _⟩
  rw [← extract_row, ← HR.out]
  rfl

end Go.Proofs.YtgoppgopnhmhfaaDoor
