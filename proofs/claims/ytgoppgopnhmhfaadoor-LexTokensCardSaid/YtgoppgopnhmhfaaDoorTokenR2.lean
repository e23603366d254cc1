/- gradusref02.token by a contract: numbers, strings, signs; and any text. -/
import Derived.Test.YtgoppgopnhmhfaaDoorTokenR
namespace Go.Proofs.YtgoppgopnhmhfaaDoor
open Go.RowKit

theorem dig_not_let {b : UInt8} (h : isDig b = true) : isLet b = false := let_dig h

set_option maxHeartbeats 8000000 in
set_option maxRecDepth 100000 in
theorem tokenR_dig (S : ByteArray) (h0 : 0 < S.size) (hS : S.size ≤ 65536) (hd : isDig S[0] = true) (w : World) : Calls Tryd.prog 24 #[.string S] w (TokPost S w (readV S.data.toList)) := by
  have hrd := read_drop (k := 0) h0
  rw [List.drop_zero, let_dig hd, hd, if_neg (by decide), if_pos rfl] at hrd
  have hl0 := letterR_c S[0]
  have hd0 := digitR_c S[0]
  rw [let_dig hd] at hl0
  rw [hd] at hd0
  have HL0 := hideP hl0
  have HD0 := hideP hd0
  have hgt := row_gt (p := isDig) h0 hd
  have hle := rowV_le S 0 isDig (by omega)
  have htk := row_take S isDig
  rw [← htk] at hrd
  obtain ⟨r, hr⟩ : ∃ r, r = rowV S 0 isDig := ⟨_, rfl⟩
  have hrow := hideP hr
  rw [← hr] at hrd hgt hle
  have hxs : (S.extract 0 r).size ≤ 65536 := by
    rw [← byteArray_len, extract_eq]
    simp
    omega
  have hpc := parseR_c (S.extract 0 r)
  obtain ⟨R, hR⟩ : ∃ R, R = readV S.data.toList := ⟨_, rfl⟩
  rw [← hR] at hrd ⊢
  have HRD := hideP hrd
  have HPC := hideP (fun w => hpc w (by omega))
  have h0I : (0 : Int) < (S.size : Int) := by omega
  clear hl0 hd0 hd hr hrd htk hR hpc hxs
  go_enter Tryd.func24, Tryd.ntmps24
  go_wp2_with fail
  refine (HL0.out _).mono ?_
  rintro e w' ⟨rfl, rfl⟩
  go_wp2_with fail
  refine (HD0.out _).mono ?_
  rintro e w' ⟨rfl, rfl⟩
  go_wp2
  go_loop [7] (fun i => ∃ m : Nat, m ≤ S.size ∧ i = .int .i64 m ∧ Hid (r = rowV S m isDig)) (fun i => S.size - (intOf i).toNat)
  case atStart => exact ⟨0, Nat.zero_le _, rfl, hrow⟩
  case round =>
    obtain ⟨m, hm, rfl, hrm⟩ := hrel
    by_cases hin : ∃ h : m < S.size, isDig S[m] = true
    · obtain ⟨hlt, hin⟩ := hin
      have hltI : (m : Int) < (S.size : Int) := by omega
      have hl1 := letterR_c S[m]
      have hd1 := digitR_c S[m]
      have N : Hid (r = rowV S (m + 1) isDig) := hrm.out.trans (rowV_on hlt hin)
      rw [let_dig hin] at hl1
      rw [hin] at hd1
      have HL1 := hideP hl1
      have HD1 := hideP hd1
      clear hl1 hd1 hin
      go_wp2_with fail
      refine (HL1.out _).mono ?_
      rintro e w' ⟨rfl, rfl⟩
      go_wp2_with fail
      refine (HD1.out _).mono ?_
      rintro e w' ⟨rfl, rfl⟩
      go_wp2
      go_round
      case rel => exact ⟨m + 1, by omega, by go_num, N⟩
      case measure => simp [intOf]; omega
    · have hmr : r = m := by
        by_cases hlt : m < S.size
        · rw [hrm.out]
          refine rowV_off hlt ?_
          cases hq : isDig S[m]
          · rfl
          · exact absurd ⟨hlt, hq⟩ hin
        · rw [hrm.out, rowV_end hlt]
      subst hmr
      have mI : (r : Int) ≤ (S.size : Int) := by omega
      have hex : (∃ h : r < S.size, (r : Int) < (S.size : Int) ∧ isDig S[r] = false) ∨ ¬ (r : Int) < (S.size : Int) := by
        by_cases hlt : r < S.size
        · have : isDig S[r] = false := by
            cases hq : isDig S[r]
            · rfl
            · exact absurd ⟨hlt, hq⟩ hin
          exact .inl ⟨hlt, by omega, this⟩
        · exact .inr (by omega)
      clear hin hrm hrow
      rcases hex with ⟨hlt, hltI, hb⟩ | hltI
      all_goals
        first
        | (have hl1 := letterR_c S[r]
           have hd1 := digitR_c S[r]
           rw [hb] at hd1
           have HL1 := hideP hl1
           have HD1 := hideP hd1
           clear hl1 hd1 hb
           go_wp2_with fail
           refine (HL1.out _).mono ?_
           rintro e w' ⟨rfl, rfl⟩
           go_wp2_with fail
           refine (HD1.out _).mono ?_
           rintro e w' ⟨rfl, rfl⟩)
        | skip
        cases hq : parseV (S.extract 0 r).data.toList with
        | none =>
          have e1 := HRD.out
          rw [hq] at e1
          have hp1 := HPC.out
          rw [hq] at hp1
          have HP1 := hideP hp1
          clear HRD hq HPC hp1
          go_wp2_with fail
          refine (HP1.out _).mono ?_
          rintro e w' ⟨rfl, rfl⟩
          simp only [parsed, Option.getD_none, Option.isSome_none]
          go_wp2
          rw [e1]
          refine bodyPost_ret (results_cell_tmps rfl _ rfl (heap_alloc_last w _) Tryd.underlying35 tok_size) rfl ?_
          exact ⟨bl_alloc w _, by decide, rfl⟩
        | some v =>
          have e1 := HRD.out
          rw [hq] at e1
          have hp1 := HPC.out
          rw [hq] at hp1
          have HP1 := hideP hp1
          clear HRD hq HPC hp1
          go_wp2_with fail
          refine (HP1.out _).mono ?_
          rintro e w' ⟨rfl, rfl⟩
          simp only [parsed, Option.getD_some, Option.isSome_some]
          go_wp2
          rw [e1]
          refine bodyPost_ret (results_cell_tmps rfl _ rfl (heap_alloc_last w _) Tryd.underlying35 tok_size) rfl ?_
          exact ⟨bl_alloc w _, r, hgt, hle, rfl, rfl⟩

set_option maxHeartbeats 8000000 in
set_option maxRecDepth 100000 in
theorem tokenR_str (S : ByteArray) (h0 : 0 < S.size) (hS : S.size ≤ 65536) (hl : isLet S[0] = false) (hd : isDig S[0] = false) (hq : S[0] = 34) (w : World) : Calls Tryd.prog 24 #[.string S] w (TokPost S w (readV S.data.toList)) := by
  have hrd := read_drop (k := 0) h0
  rw [List.drop_zero, hl, hd, if_neg (by decide), if_neg (by decide), if_pos hq] at hrd
  have hl0 := letterR_c S[0]
  have hd0 := digitR_c S[0]
  rw [hl] at hl0
  rw [hd] at hd0
  have HL0 := hideP hl0
  have HD0 := hideP hd0
  have hqc := quotedR_c S hS
  obtain ⟨R, hR⟩ : ∃ R, R = readV S.data.toList := ⟨_, rfl⟩
  rw [← hR] at hrd ⊢
  have p1 : ((S[0].toNat : Int) == 34) = true := by rw [hq]; rfl
  have h0I : (0 : Int) < (S.size : Int) := by omega
  cases ho : strAt S 1 [] with
  | none =>
    rw [ho] at hqc
    rw [Nat.zero_add, ho] at hrd
    subst hrd
    have HQC := hideP hqc
    clear hl0 hd0 hl hd hq hR hqc ho
    go_enter Tryd.func24, Tryd.ntmps24
    go_wp2_with fail
    refine (HL0.out _).mono ?_
    rintro e w' ⟨rfl, rfl⟩
    go_wp2_with fail
    refine (HD0.out _).mono ?_
    rintro e w' ⟨rfl, rfl⟩
    go_wp2_with fail
    refine (HQC.out _).mono ?_
    rintro e w' ⟨hq, rfl⟩
    simp only [QuotPost] at hq
    subst hq
    go_wp2
    refine bodyPost_ret (results_cell_tmps rfl _ rfl (heap_alloc_last w _) Tryd.underlying35 tok_size) rfl ?_
    exact ⟨bl_alloc w _, by decide, rfl⟩
  | some sr =>
    obtain ⟨said, rest⟩ := sr
    rw [ho] at hqc
    rw [Nat.zero_add, ho] at hrd
    have hrd2 : R = if 256 < said.length then Rd.bad 2 else Rd.tok 4 said rest := hrd
    have HQC := hideP hqc
    have HRD := hideP hrd2
    clear hl0 hd0 hl hd hq hR hqc ho hrd hrd2
    go_enter Tryd.func24, Tryd.ntmps24
    go_wp2_with fail
    refine (HL0.out _).mono ?_
    rintro e w' ⟨rfl, rfl⟩
    go_wp2_with fail
    refine (HD0.out _).mono ?_
    rintro e w' ⟨rfl, rfl⟩
    go_wp2_with fail
    refine (HQC.out _).mono ?_
    rintro e w' ⟨hq, rfl⟩
    obtain ⟨m, hm1, hm2, hrest, rfl⟩ := hq
    have m0 : ((m : Int) == 0) = false := by simp; omega
    obtain ⟨T, hT⟩ : ∃ T : ByteArray, T = ⟨said.toArray⟩ := ⟨_, rfl⟩
    have hTs : T.size = said.length := by rw [hT, str_len]
    rw [← hT]
    have HTT := hideP hT
    have HREST := hideP hrest
    clear hT hrest
    by_cases h256 : 256 < said.length
    · have e1 := HRD.out
      rw [if_pos h256] at e1
      subst e1
      have h256I : (256 : Int) < (T.size : Int) := by omega
      clear hTs HRD
      go_wp2
      refine bodyPost_ret (results_cell_tmps rfl _ rfl (heap_alloc_last w _) Tryd.underlying35 tok_size) rfl ?_
      exact ⟨bl_alloc w _, by decide, rfl⟩
    · have e1 := HRD.out
      rw [if_neg h256] at e1
      subst e1
      have h256I : ¬ (256 : Int) < (T.size : Int) := by omega
      clear hTs HRD
      go_wp2
      refine bodyPost_ret (results_cell_tmps rfl _ rfl (heap_alloc_last w _) Tryd.underlying35 tok_size) rfl ?_
      exact ⟨bl_alloc w _, m, by omega, hm2, HREST.out, by rw [HTT.out]; rfl⟩

set_option maxHeartbeats 8000000 in
set_option maxRecDepth 100000 in
theorem tokenR_sgn (S : ByteArray) (h0 : 0 < S.size) (hS : S.size ≤ 65536) (hl : isLet S[0] = false) (hd : isDig S[0] = false) (hq : ¬ S[0] = 34) (w : World) : Calls Tryd.prog 24 #[.string S] w (TokPost S w (readV S.data.toList)) := by
  have hrd := read_drop (k := 0) h0
  rw [List.drop_zero, hl, hd, if_neg (by decide), if_neg (by decide), if_neg hq] at hrd
  have hl0 := letterR_c S[0]
  have hd0 := digitR_c S[0]
  rw [hl] at hl0
  rw [hd] at hd0
  have HL0 := hideP hl0
  have HD0 := hideP hd0
  have hsc := signRef_c S h0 hS
  have hsl := signV_le S.data.toList
  rw [byteArray_len] at hsl
  obtain ⟨R, hR⟩ : ∃ R, R = readV S.data.toList := ⟨_, rfl⟩
  rw [← hR] at hrd ⊢
  have p1 : ((S[0].toNat : Int) == 34) = false := by
    rw [beq_eq_false_iff_ne]
    intro e
    exact hq (UInt8.toNat_inj.1 (by show S[0].toNat = 34; omega))
  have h0I : (0 : Int) < (S.size : Int) := by omega
  obtain ⟨n, hn⟩ : ∃ n, n = signV S.data.toList := ⟨_, rfl⟩
  rw [← hn] at hsc hsl hrd
  have HSC := hideP hsc
  have HRD := hideP hrd
  have nI : (n : Int) ≤ (S.size : Int) := by omega
  clear hl0 hd0 hl hd hq hR hsc hrd hn
  go_enter Tryd.func24, Tryd.ntmps24
  go_wp2_with fail
  refine (HL0.out _).mono ?_
  rintro e w' ⟨rfl, rfl⟩
  go_wp2_with fail
  refine (HD0.out _).mono ?_
  rintro e w' ⟨rfl, rfl⟩
  go_wp2_with fail
  refine (HSC.out _).mono ?_
  rintro e w2 ⟨rfl, hb2⟩
  have htb := tok_kept hb2
  have HTB := hideP htb
  have c0 := htb.c0
  have c1 := htb.c1
  have c2 := htb.c2
  have c3 := htb.c3
  have f0 := htb.fz 0
  have f1 := htb.fz 1
  have f2 := htb.fz 2
  have f3 := htb.fz 3
  have HB2 := hideP (below_next (bl_alloc w _) hb2)
  clear htb hb2
  by_cases hz : n = 0
  · have e1 := HRD.out
    rw [if_pos hz] at e1
    subst e1
    have z1 : ((n : Int) == 0) = true := by rw [hz]; rfl
    clear HRD hz
    go_wp2
    refine bodyPost_ret (results_cell_tmps rfl _ rfl (HTB.out.set _ _ _ _) Tryd.underlying35 tok_size) rfl ?_
    exact ⟨below_diag HB2.out _ _ _ _, by decide, rfl⟩
  · have e1 := HRD.out
    rw [if_neg hz, Nat.zero_add] at e1
    subst e1
    have z1 : ((n : Int) == 0) = false := by simp; omega
    have hn0 : 0 < n := by omega
    clear HRD hz
    go_wp2
    refine bodyPost_ret (results_cell_tmps rfl _ rfl (HTB.out.set _ _ _ _) Tryd.underlying35 tok_size) rfl ?_
    refine ⟨below_diag HB2.out _ _ _ _, n, hn0, hsl, rfl, ?_⟩
    rw [extract_eq, List.drop_zero, Nat.sub_zero]
    rfl

theorem tokenR_c (S : ByteArray) (h0 : 0 < S.size) (hS : S.size ≤ 65536) (w : World) : Calls Tryd.prog 24 #[.string S] w (TokPost S w (readV S.data.toList)) := by
  cases hl : isLet S[0]
  · cases hd : isDig S[0]
    · by_cases hq : S[0] = 34
      · exact tokenR_str S h0 hS hl hd hq w
      · exact tokenR_sgn S h0 hS hl hd hq w
    · exact tokenR_dig S h0 hS hd w
  · exact tokenR_let S h0 hS hl w
end Go.Proofs.YtgoppgopnhmhfaaDoor
