/- (*scanner).skip by a contract: blanks and comments are passed over. -/
import Derived.Test.YtgoppgopnhmhfaaDoorScan
import Derived.Deep.RegionWith
namespace Go.Proofs.YtgoppgopnhmhfaaDoor
open Go.RowKit

/-- Where the scanner of block sb stands. -/
def atOf (w : World) (sb : Nat) : Nat := match w.cell? ⟨sb, 1, none⟩ with | some v => (intOf v).toNat | none => 0

theorem Scan.at {w : World} {sb : Nat} {S : ByteArray} {k : Nat} {li ls : Int} {mb : Nat} (h : Scan w sb S k li ls mb) : atOf w sb = k := by
  unfold atOf
  rw [h.c1]
  simp [intOf]

/-- What is left from k on, the line, the column. -/
def skipAt (S : ByteArray) (k li ls : Nat) : List UInt8 × Nat × Nat := skipV false (S.data.toList.drop k) li (k - ls + 1)

theorem skipAt_lf {S : ByteArray} {k li ls : Nat} (hk : k < S.size) (h : S[k].toNat = 10) : skipAt S k li ls = skipAt S (k + 1) (li + 1) (k + 1) := by
  have e : S[k] = 10 := UInt8.toNat_inj.1 h
  unfold skipAt
  rw [byteArray_drop S k hk, skipV, if_pos e]
  simp

theorem skipAt_blank {S : ByteArray} {k li ls : Nat} (hk : k < S.size) (hl : ls ≤ k) (h : S[k].toNat = 32 ∨ S[k].toNat = 9 ∨ S[k].toNat = 13) : skipAt S k li ls = skipAt S (k + 1) li ls := by
  have e : S[k] = 32 ∨ S[k] = 9 ∨ S[k] = 13 := by
    rcases h with h | h | h
    · exact .inl (UInt8.toNat_inj.1 h)
    · exact .inr (.inl (UInt8.toNat_inj.1 h))
    · exact .inr (.inr (UInt8.toNat_inj.1 h))
  unfold skipAt
  rw [byteArray_drop S k hk, skipV, if_neg (by rintro e2; rw [e2] at e; revert e; decide), if_pos e]
  rw [show k - ls + 1 + 1 = k + 1 - ls + 1 from by omega]

theorem drop_row (S : ByteArray) (k : Nat) (p : UInt8 → Bool) : S.data.toList.drop (rowV S k p) = (S.data.toList.drop k).dropWhile p := by
  unfold rowV
  rw [← List.drop_drop]
  generalize S.data.toList.drop k = l
  induction l with
  | nil => rfl
  | cons b r ih =>
    by_cases h : p b = true
    · rw [List.takeWhile_cons_of_pos h, List.dropWhile_cons_of_pos h, List.length_cons, List.drop_succ_cons, ih]
    · rw [List.takeWhile_cons_of_neg h, List.dropWhile_cons_of_neg h]; rfl

theorem skipAt_remark {S : ByteArray} {k li ls : Nat} (hk : k < S.size) (hl : ls ≤ k) (h : S[k].toNat = 35) : skipAt S k li ls = skipAt S (rowV S k notLf) li ls ∧ k < rowV S k notLf := by
  have e : S[k] = 35 := UInt8.toNat_inj.1 h
  have hn : notLf S[k] = true := by rw [e]; decide
  have hr := rowV_on hk hn
  have hlt : k + 1 ≤ rowV S (k + 1) notLf := by unfold rowV; omega
  refine ⟨?_, by omega⟩
  rw [hr]
  unfold skipAt
  rw [drop_row, byteArray_drop S k hk, skipV, if_neg (by rw [e]; decide), if_neg (by rw [e]; decide), if_pos e, skip_comment]
  unfold rowV
  rw [show k - ls + 1 + 1 + (List.takeWhile notLf (List.drop (k + 1) S.data.toList)).length = k + 1 + (List.takeWhile notLf (List.drop (k + 1) S.data.toList)).length - ls + 1 from by omega]

theorem skipAt_stay {S : ByteArray} {k li ls : Nat} (hk : k < S.size) (h : S[k].toNat ≠ 10 ∧ S[k].toNat ≠ 32 ∧ S[k].toNat ≠ 9 ∧ S[k].toNat ≠ 13 ∧ S[k].toNat ≠ 35) : skipAt S k li ls = (S.data.toList.drop k, li, k - ls + 1) := by
  have f : ∀ n : UInt8, S[k].toNat ≠ n.toNat → ¬ S[k] = n := fun n hn e => hn (by rw [e])
  unfold skipAt
  rw [byteArray_drop S k hk, skipV, if_neg (f 10 h.1), if_neg, if_neg (f 35 h.2.2.2.2)]
  rintro (e | e | e)
  · exact f 32 h.2.1 e
  · exact f 9 h.2.2.1 e
  · exact f 13 h.2.2.2.1 e

theorem skipAt_end {S : ByteArray} {k li ls : Nat} (hk : ¬ k < S.size) : skipAt S k li ls = (S.data.toList.drop k, li, k - ls + 1) := by
  unfold skipAt
  rw [List.drop_eq_nil_of_le (by rw [byteArray_len]; omega)]
  rfl

set_option maxHeartbeats 2000000 in
set_option maxRecDepth 100000 in
theorem skip_c (S : ByteArray) (hS : S.size ≤ 65536) (sb mb k0 li0 ls0 : Nat) (hk0 : k0 ≤ S.size) (hls0 : ls0 ≤ k0) (hli0 : li0 ≤ k0 + 1) (w : World) (hsc : Scan w sb S k0 li0 ls0 mb) :
    Calls Tryd.prog 20 #[.pointer (some ⟨sb, 0, none⟩)] w fun e w' => e = .returned (.tuple #[]) ∧ ∃ k li ls : Nat, Scan w' sb S k li ls mb ∧ w.grownBy w' (some sb) ∧
      k0 ≤ k ∧ k ≤ S.size ∧ ls ≤ k ∧ li ≤ k + 1 ∧ skipAt S k0 li0 ls0 = (S.data.toList.drop k, li, k - ls + 1) := by
  go_enter Tryd.func20, Tryd.ntmps20
  go_wp2
  go_loopw [20] (fun _ wr => ∃ k li ls : Nat, Scan wr sb S k li ls mb ∧ w.grownBy wr (some sb) ∧ k0 ≤ k ∧ k ≤ S.size ∧ ls ≤ k ∧ li ≤ k + 1 ∧ skipAt S k0 li0 ls0 = skipAt S k li ls) (fun _ wr => S.size - atOf wr sb)
  case atStart => exact ⟨k0, li0, ls0, hsc, World.grownBy.refl _ _, Nat.le_refl _, hk0, hls0, hli0, rfl⟩
  case round =>
    obtain ⟨k, li, ls, hs, hg, hk0', hk, hls, hli, hrel⟩ := hrel
    have HR := hideP hrel
    have HS := hideP hs
    have hat := hideP hs.at
    have c0 := hs.c0
    have c1 := hs.c1
    have c2 := hs.c2
    have c3 := hs.c3
    have f1 := hs.fz 1
    have f2 := hs.fz 2
    have f3 := hs.fz 3
    have HG := hideP hg
    clear hrel hs hg hsc
    by_cases hlt : k < S.size
    · have hlt' : (k : Int) < (S.size : Int) := by omega
      by_cases b1 : S[k].toNat = 10
      · have b1' : ((S[k].toNat : Int) == 10) = true := by simp; omega
        go_wp2
        go_quiet (fail)
        go_wp2
        go_quiet (fail)
        go_wp2
        have hs' := (((HS.out : Scan (wr.drewN (_ + _)) sb S k li ls mb).set1 (k + 1)).set2 (li + 1)).set3 (k + 1)
        refine ⟨⟨k + 1, li + 1, k + 1, hs', grown_set (grown_set (grown_set (grown_drewN HG.out _) _ _) _ _) _ _, by omega, by omega, by omega, by omega, HR.out.trans (skipAt_lf hlt b1)⟩, ?_⟩
        have e2 := Scan.at (k := k + 1) hs'
        have e1 := hat.out
        rw [e1]
        exact Nat.lt_of_le_of_lt (Nat.le_of_eq (congrArg (S.size - ·) e2)) (by omega)
      have n1 : ((S[k].toNat : Int) == 10) = false := by simp; omega
      by_cases b2 : S[k].toNat = 32 ∨ S[k].toNat = 9 ∨ S[k].toNat = 13
      · have hst := skipAt_blank (li := li) hlt hls b2
        have HST := hideP hst
        clear hst
        have b2' : ((S[k].toNat : Int) == 32) = true ∨ (((S[k].toNat : Int) == 32) = false ∧ ((S[k].toNat : Int) == 9) = true) ∨ (((S[k].toNat : Int) == 32) = false ∧ ((S[k].toNat : Int) == 9) = false ∧ ((S[k].toNat : Int) == 13) = true) := by simp; omega
        rcases b2' with p1 | ⟨p1, p2⟩ | ⟨p1, p2, p3⟩
        all_goals
          go_wp2
          go_quiet (fail)
          go_wp2
          go_quiet (fail)
          go_wp2
          have hs' := (HS.out : Scan (wr.drewN (_ + _)) sb S k li ls mb).set1 (k + 1)
          refine ⟨⟨k + 1, li, ls, hs', grown_set (grown_drewN HG.out _) _ _, by omega, by omega, by omega, by omega, HR.out.trans HST.out⟩, ?_⟩
          have e2 := Scan.at (k := k + 1) hs'
          have e1 := hat.out
          rw [e1]
          exact Nat.lt_of_le_of_lt (Nat.le_of_eq (congrArg (S.size - ·) e2)) (by omega)
      have n2 : ((S[k].toNat : Int) == 32) = false := by simp; omega
      have n3 : ((S[k].toNat : Int) == 9) = false := by simp; omega
      have n4 : ((S[k].toNat : Int) == 13) = false := by simp; omega
      by_cases b3 : S[k].toNat = 35
      · obtain ⟨hst, hlt2⟩ := skipAt_remark (li := li) hlt hls b3
        have hle := rowV_le S k notLf hk
        have hc := rowEnd_lf S (by omega) k hk
        obtain ⟨r, hr⟩ : ∃ r, r = rowV S k notLf := ⟨_, rfl⟩
        rw [← hr] at hst hlt2 hle hc
        have HST := hideP hst
        have HC := hideP hc
        clear hst hc hr
        have p4 : ((S[k].toNat : Int) == 35) = true := by simp; omega
        go_wp2
        go_quiet (fail)
        go_wp2
        go_quiet (fail)
        go_wp2
        go_region_with (go_at_call 26; refine (HC.out _).mono ?_; rintro e w' ⟨rfl, rfl⟩)
        all_goals
          go_wp2
          have hs' := (HS.out : Scan (wr.drewN (_ + _ + 1)) sb S k li ls mb).set1 r
          refine ⟨⟨r, li, ls, hs', grown_set (grown_drewN HG.out _) _ _, by omega, by omega, by omega, by omega, HR.out.trans HST.out⟩, ?_⟩
          have e2 := Scan.at (k := r) hs'
          have e1 := hat.out
          rw [e1]
          exact Nat.lt_of_le_of_lt (Nat.le_of_eq (congrArg (S.size - ·) e2)) (by omega)
      have n5 : ((S[k].toNat : Int) == 35) = false := by simp; omega
      have hst := skipAt_stay (li := li) (ls := ls) hlt ⟨b1, by omega, by omega, by omega, b3⟩
      have HST := hideP hst
      clear hst
      go_wp2
      go_quiet (fail)
      go_wp2
      go_quiet (fail)
      go_wp2
      first | go_end0 | (simp only [Exit.inBlock, Exit.then]; refine bodyPost_ret (results_none rfl _ _ _) rfl ?_) | refine bodyPost_ret (results_none rfl _ _ _) rfl ?_
      exact ⟨rfl, k, li, ls, HS.out, grown_drewN HG.out _, by omega, by omega, by omega, by omega, HR.out.trans HST.out⟩
    · have hst := skipAt_end (li := li) (ls := ls) hlt
      have HST := hideP hst
      clear hst
      go_wp2
      go_quiet (fail)
      go_wp2
      first | go_end0 | (simp only [Exit.inBlock, Exit.then]; refine bodyPost_ret (results_none rfl _ _ _) rfl ?_) | refine bodyPost_ret (results_none rfl _ _ _) rfl ?_
      exact ⟨rfl, k, li, ls, HS.out, grown_drewN HG.out _, by omega, by omega, by omega, by omega, HR.out.trans HST.out⟩
end Go.Proofs.YtgoppgopnhmhfaaDoor
