/- Part. -/
import Derived.Test.YtlhmofphpfdjlaaGreatDoorPart31
set_option maxRecDepth 100000
set_option maxHeartbeats 4000000
/- (*scanner).read by a contract. -/
namespace Go.Proofs.YtlhmofphpfdjlaaGreatDoor.Lx
open Go.Proofs.Tryz
open Go.RowKit
/-- What a call that reads a token leaves. -/
def ReadPost (S : ByteArray) (sb mb k : Nat) (li ls : Int) (tb : Nat) (tl tc : Int) (w : World) (r : Rd) (e : Ending) (w' : World) : Prop :=
  match r with
  | .inl x => e = .returned (.int .i64 x) /\ x ≠ 0 /\ (∃ kd tx, TokB w' tb kd tx tl tc) /\ Upd w w' sb tb
  | .inr (kind, text, rest) => e = .returned (.int .i64 0) /\ ∃ m : Nat, k < m /\ m <= S.size /\ rest = S.data.toList.drop m /\ Scan w' sb S m li ls mb /\ TokB w' tb kind ⟨text.toArray⟩ tl tc /\ Upd w w' sb tb
theorem read_drop {S : ByteArray} {k : Nat} (hk : k < S.size) : readV (S.data.toList.drop k) =
    if isLet S[k] then
      if 32 < ((S.data.toList.drop k).takeWhile inNm).length then .bad 2
      else .tok (if wordsV.contains ((S.data.toList.drop k).takeWhile inNm) then 2 else 1) ((S.data.toList.drop k).takeWhile inNm) (S.data.toList.drop (rowV S k inNm))
    else if isDig S[k] then
      match parseV ((S.data.toList.drop k).takeWhile isDig) with
      | none => .bad 3
      | some _ => .tok 3 ((S.data.toList.drop k).takeWhile isDig) (S.data.toList.drop (rowV S k isDig))
    else if S[k] = 34 then
      match strAt S (k + 1) [] with
      | none => .bad 4
      | some (said, rest) => if 256 < said.length then .bad 2 else .tok 4 said rest
    else if signV (S.data.toList.drop k) = 0 then .bad 5
    else .tok 5 ((S.data.toList.drop k).take (signV (S.data.toList.drop k))) (S.data.toList.drop (k + signV (S.data.toList.drop k))) := by
  rw [drop_row, drop_row, <- List.drop_drop]
  unfold strAt
  have e := byteArray_drop S k hk
  obtain ⟨l, hl⟩ : ∃ l, l = S.data.toList.drop k := ⟨_, rfl⟩
  rw [<- hl] at e ⊢
  conv => lhs; rw [e]
  rw [readV, <- e]
  rfl
theorem row_gt {S : ByteArray} {k : Nat} {p : UInt8 -> Bool} (hk : k < S.size) (h : p S[k] = true) : k < rowV S k p := by
  rw [rowV_on hk h]
  unfold rowV
  omega
theorem str_len (l : List UInt8) : (ByteArray.mk l.toArray).size = l.length := by simp [ByteArray.size]
theorem read_name_c (S : ByteArray) (hS : S.size <= 65536) (sb mb k li ls : Nat) (hk : k < S.size) (tb : Nat) (kd : Int) (tx : ByteArray) (tl tc : Int) (hne : sb ≠ tb) (w : World) (hsc : Scan w sb S k li ls mb) (htk : TokB w tb kd tx tl tc)
    (hw : Words w) (hgs : 4 ≠ sb) (hgt : 4 ≠ tb) (hl : isLet S[k] = true) :
    Calls prog 51 #[.pointer (some ⟨sb, 0, none⟩), .pointer (some ⟨tb, 0, none⟩)] w (ReadPost S sb mb k li ls tb tl tc w (readV (S.data.toList.drop k))) := by
  rw [read_drop hk, hl, if_pos rfl]
  have hst := startsName_c S[k]
  rw [hl] at hst
  have HST := hideP hst
  have hrow := row_name S hS sb mb k li ls (by omega) 
  have hgt2 := row_gt (p := inNm) hk (by simp [inNm, hl])
  have hle := rowV_le S k inNm (by omega)
  have hlen : ((S.data.toList.drop k).takeWhile inNm).length <= 65536 := by
    have : k + ((S.data.toList.drop k).takeWhile inNm).length = rowV S k inNm := rfl
    omega
  obtain ⟨r, hr⟩ : ∃ r, r = rowV S k inNm := ⟨_, rfl⟩
  obtain ⟨t, ht⟩ : ∃ t, t = (S.data.toList.drop k).takeWhile inNm := ⟨_, rfl⟩
  rw [<- hr] at hrow hgt2 hle ⊢
  rw [<- ht] at hrow hlen ⊢
  obtain ⟨T, hT⟩ : ∃ T : ByteArray, T = ⟨t.toArray⟩ := ⟨_, rfl⟩
  rw [<- hT] at hrow
  have hTs : T.size = t.length := by rw [hT, str_len]
  have hTd : T.data.toList = t := by rw [hT]
  have HROW := hideP hrow
  have HS := hideP hsc
  have HT := hideP htk
  have HW := hideP hw
  have HTT := hideP hT
  have c0 := hsc.c0
  have c1 := hsc.c1
  have hkI : (k : Int) < (S.size : Int) := by omega
  have hw2 : T.size <= 32 ∨ 32 < T.size := by omega
  have hTs2 : T.size <= 65536 := by omega
  obtain ⟨R, hR⟩ : ∃ R, R = (if 32 < t.length then Rd.bad 2 else Rd.tok (if wordsV.contains t = true then 2 else 1) t (List.drop r S.data.toList)) := ⟨_, rfl⟩
  rw [<- hR]
  have HRR := hideP hR
  clear hR
  have HTS := hideP hTs
  have HTD := hideP hTd
  clear hst hrow hr ht hsc htk hw hl hT hTs hTd hlen
  go_enter func51, ntmps51
  go_wp2
  go_quiet (fail)
  go_wp2_with fail
  refine (HST.out _).mono ?_
  rintro e w' ⟨rfl, rfl⟩
  go_wp2_with fail
  refine (HROW.out _ (by exact HS.out)).mono ?_
  rintro e w1 ⟨rfl, hs1, hg1⟩
  have hu1 := hideP ((Upd.refl w sb tb).drewN _ |>.trans (Upd.ofL hg1 tb))
  have ht1 := TokB.kept (w := World.drewN w _) HT.out hg1 (by simpa using hne.symm)
  have HT1 := hideP ht1
  have HS1 := hideP hs1
  have t1 := ht1.c1
  have g0 := ht1.fz 0
  have g1 := ht1.fz 1
  have t0 := ht1.c0
  clear hs1 hg1 ht1
  rcases hw2 with h32 | h32
  · have e1 : ¬ 32 < t.length := by have := HTS.out; omega
    have hcw := isWord_c T
    rw [HTD.out] at hcw
    cases hq : wordsV.contains t
    · rw [hq] at hcw
      have HC := hideP hcw
      have HQ := hideP hq
      clear hcw hq
      go_wp2_with fail
      refine (HC.out _ ?_).mono ?_
      · exact ((hu1.out.setR 1 _).setR 0 _).words HW.out hgs hgt
      rintro e w' ⟨rfl, rfl⟩
      go_wp2
      go_ret
      rw [HRR.out, if_neg e1, HQ.out]
      refine ⟨rfl, r, hgt2, hle, rfl, ?_, ?_, ?_⟩
      · exact (HS1.out.kept (grown_setCell _ ⟨tb, 1, none⟩ _) (by simpa using hne)).kept (grown_setCell _ ⟨tb, 0, none⟩ _) (by simpa using hne)
      · rw [<- HTT.out]
        exact (HT1.out.set1 T).set0 1
      · exact (hu1.out.setR 1 _).setR 0 _
    · rw [hq] at hcw
      have HC := hideP hcw
      have HQ := hideP hq
      clear hcw hq
      go_wp2_with fail
      refine (HC.out _ ?_).mono ?_
      · exact ((hu1.out.setR 1 _).setR 0 _).words HW.out hgs hgt
      rintro e w' ⟨rfl, rfl⟩
      go_wp2
      go_ret
      rw [HRR.out, if_neg e1, HQ.out]
      refine ⟨rfl, r, hgt2, hle, rfl, ?_, ?_, ?_⟩
      · exact ((HS1.out.kept (grown_setCell _ ⟨tb, 1, none⟩ _) (by simpa using hne)).kept (grown_setCell _ ⟨tb, 0, none⟩ _) (by simpa using hne)).kept (grown_setCell _ ⟨tb, 0, none⟩ _) (by simpa using hne)
      · rw [<- HTT.out]
        exact ((HT1.out.set1 T).set0 1).set0 2
      · exact ((hu1.out.setR 1 _).setR 0 _).setR 0 _
  · have e1 : 32 < t.length := by have := HTS.out; omega
    go_wp2
    go_ret
    rw [HRR.out, if_pos e1]
    exact ⟨rfl, by decide, ⟨_, _, HT1.out.set1 T⟩, hu1.out.setR 1 _⟩
theorem read_digit_c (S : ByteArray) (hS : S.size <= 65536) (sb mb k li ls : Nat) (hk : k < S.size) (tb : Nat) (kd : Int) (tx : ByteArray) (tl tc : Int) (hne : sb ≠ tb) (w : World) (hsc : Scan w sb S k li ls mb) (htk : TokB w tb kd tx tl tc)
    (hl : isLet S[k] = false) (hd : isDig S[k] = true) :
    Calls prog 51 #[.pointer (some ⟨sb, 0, none⟩), .pointer (some ⟨tb, 0, none⟩)] w (ReadPost S sb mb k li ls tb tl tc w (readV (S.data.toList.drop k))) := by
  have hst := startsName_c S[k]
  have hdg := isDigit_c S[k]
  rw [hl] at hst
  rw [hd] at hdg
  have HST := hideP hst
  have HDG := hideP hdg
  have hrow := row_digit S hS sb mb k li ls (by omega)
  have hgt2 := row_gt (p := isDig) hk hd
  have hle := rowV_le S k isDig (by omega)
  have hlen : ((S.data.toList.drop k).takeWhile isDig).length <= 65536 := by
    have : k + ((S.data.toList.drop k).takeWhile isDig).length = rowV S k isDig := rfl
    omega
  obtain ⟨R, hR⟩ : ∃ R, R = readV (S.data.toList.drop k) := ⟨_, rfl⟩
  rw [<- hR]
  rw [read_drop hk, hl, if_neg (by decide), hd, if_pos rfl] at hR
  obtain ⟨r, hr⟩ : ∃ r, r = rowV S k isDig := ⟨_, rfl⟩
  obtain ⟨t, ht⟩ : ∃ t, t = (S.data.toList.drop k).takeWhile isDig := ⟨_, rfl⟩
  rw [<- hr] at hrow hgt2 hle hR
  rw [<- ht] at hrow hlen hR
  obtain ⟨T, hT⟩ : ∃ T : ByteArray, T = ⟨t.toArray⟩ := ⟨_, rfl⟩
  rw [<- hT] at hrow
  have hTs : T.size = t.length := by rw [hT, str_len]
  have hTd : T.data.toList = t := by rw [hT]
  have hpa := parse_c T (by omega)
  rw [hTd] at hpa
  have HROW := hideP hrow
  have HS := hideP hsc
  have HT := hideP htk
  have HTT := hideP hT
  have c0 := hsc.c0
  have c1 := hsc.c1
  have hkI : (k : Int) < (S.size : Int) := by omega
  clear hst hdg hrow hr ht hsc htk hl hd hT hTs hTd hlen
  cases hv : parseV t with
  | none =>
    rw [hv] at hpa hR
    have HPA := hideP hpa
    have HRR := hideP hR
    clear hpa hR hv
    go_enter func51, ntmps51
    go_wp2
    go_quiet (fail)
    go_wp2_with fail
    refine (HST.out _).mono ?_
    rintro e w' ⟨rfl, rfl⟩
    go_wp2_with fail
    refine (HDG.out _).mono ?_
    rintro e w' ⟨rfl, rfl⟩
    go_wp2_with fail
    refine (HROW.out _ (by exact HS.out)).mono ?_
    rintro e w1 ⟨rfl, hs1, hg1⟩
    have hu1 := hideP ((Upd.refl w sb tb).drewN _ |>.trans (Upd.ofL hg1 tb))
    have ht1 := TokB.kept (w := World.drewN w _) HT.out hg1 (by simpa using hne.symm)
    have HT1 := hideP ht1
    have HS1 := hideP hs1
    have t1 := ht1.c1
    have g0 := ht1.fz 0
    have g1 := ht1.fz 1
    have t0 := ht1.c0
    clear hs1 hg1 ht1
    go_wp2_with fail
    refine (HPA.out _).mono ?_
    rintro e w' ⟨rfl, rfl⟩
    simp only [parsed, Option.getD_none, Option.isSome_none]
    go_wp2
    go_ret
    rw [HRR.out]
    exact ⟨rfl, by decide, ⟨_, _, (HT1.out.set0 3).set1 T⟩, (hu1.out.setR 0 _).setR 1 _⟩
  | some x =>
    rw [hv] at hpa hR
    have HPA := hideP hpa
    have HRR := hideP hR
    clear hpa hR hv
    go_enter func51, ntmps51
    go_wp2
    go_quiet (fail)
    go_wp2_with fail
    refine (HST.out _).mono ?_
    rintro e w' ⟨rfl, rfl⟩
    go_wp2_with fail
    refine (HDG.out _).mono ?_
    rintro e w' ⟨rfl, rfl⟩
    go_wp2_with fail
    refine (HROW.out _ (by exact HS.out)).mono ?_
    rintro e w1 ⟨rfl, hs1, hg1⟩
    have hu1 := hideP ((Upd.refl w sb tb).drewN _ |>.trans (Upd.ofL hg1 tb))
    have ht1 := TokB.kept (w := World.drewN w _) HT.out hg1 (by simpa using hne.symm)
    have HT1 := hideP ht1
    have HS1 := hideP hs1
    have t1 := ht1.c1
    have g0 := ht1.fz 0
    have g1 := ht1.fz 1
    have t0 := ht1.c0
    clear hs1 hg1 ht1
    go_wp2_with fail
    refine (HPA.out _).mono ?_
    rintro e w' ⟨rfl, rfl⟩
    simp only [parsed, Option.getD_some, Option.isSome_some]
    go_wp2
    go_ret
    rw [HRR.out]
    refine ⟨rfl, r, hgt2, hle, rfl, ?_, ?_, ?_⟩
    · exact (HS1.out.kept (grown_setCell _ ⟨tb, 0, none⟩ _) (by simpa using hne)).kept (grown_setCell _ ⟨tb, 1, none⟩ _) (by simpa using hne)
    · rw [<- HTT.out]
      exact (HT1.out.set0 3).set1 T
    · exact (hu1.out.setR 0 _).setR 1 _
theorem read_string_c (S : ByteArray) (hS : S.size <= 65536) (sb mb k li ls : Nat) (hk : k < S.size) (tb : Nat) (kd : Int) (tx : ByteArray) (tl tc : Int) (hne : sb ≠ tb) (w : World) (hsc : Scan w sb S k li ls mb) (htk : TokB w tb kd tx tl tc)
    (hq : S[k].toNat = 34) :
    Calls prog 51 #[.pointer (some ⟨sb, 0, none⟩), .pointer (some ⟨tb, 0, none⟩)] w (ReadPost S sb mb k li ls tb tl tc w (readV (S.data.toList.drop k))) := by
  have hq8 : S[k] = 34 := UInt8.toNat_inj.1 hq
  have hl : isLet S[k] = false := by rw [hq8]; decide
  have hd : isDig S[k] = false := by rw [hq8]; decide
  have hst := startsName_c S[k]
  have hdg := isDigit_c S[k]
  rw [hl] at hst
  rw [hd] at hdg
  have HST := hideP hst
  have HDG := hideP hdg
  rw [read_drop hk, hl, if_neg (by decide), hd, if_neg (by decide), if_pos hq8]
  have hrs := readString_c S hS sb mb k li ls hk tb 4 tx tl tc hne
  obtain ⟨o, ho⟩ : ∃ o, o = strAt S (k + 1) [] := ⟨_, rfl⟩
  rw [<- ho] at hrs ⊢
  have HRS := hideP hrs
  have HS := hideP hsc
  have HT := hideP htk
  have c0 := hsc.c0
  have c1 := hsc.c1
  have t0 := htk.c0
  have g0 := htk.fz 0
  have hkI : (k : Int) < (S.size : Int) := by omega
  have p1 : ((S[k].toNat : Int) == 34) = true := by simp; omega
  obtain ⟨R, hR⟩ : ∃ R, R = (match o with | none => Rd.bad 4 | some (said, rest) => if 256 < said.length then .bad 2 else .tok 4 said rest) := ⟨_, rfl⟩
  rw [<- hR]
  have HRR := hideP hR
  clear hst hdg hrs ho hsc htk hl hd hq hq8 hR
  go_enter func51, ntmps51
  go_wp2
  go_quiet (fail)
  go_wp2_with fail
  refine (HST.out _).mono ?_
  rintro e w' ⟨rfl, rfl⟩
  go_wp2_with fail
  refine (HDG.out _).mono ?_
  rintro e w' ⟨rfl, rfl⟩
  go_wp2_with fail
  have hu0 : Hid (∀ n, Upd w ((w.drewN n).setCell ⟨tb, 0, none⟩ (.int .i64 4)) sb tb) := fun n => ((Upd.refl w sb tb).drewN n).setR 0 _
  refine (HRS.out _ ?_ ?_).mono ?_
  · exact Scan.kept (w := World.drewN w _) HS.out (grown_setCell _ ⟨tb, 0, none⟩ _) (by simpa using hne)
  · exact TokB.set0 (w := World.drewN w _) HT.out 4
  intro e w1 hp
  have HP := hideP hp
  clear hp
  cases o with
  | none =>
    obtain ⟨rfl, hg⟩ := HP.out
    have HG := hideP hg
    have HT1 := hideP ((TokB.set0 (w := World.drewN w _) HT.out 4).kept hg (by simp))
    clear hg
    go_wp2
    go_ret
    rw [HRR.out]
    exact ⟨rfl, by decide, ⟨_, _, HT1.out⟩, (hu0.out _).trans (.ofNone HG.out sb tb)⟩
  | some sr =>
    obtain ⟨said, rest⟩ := sr
    have h2 := HP.out
    unfold StrPost at h2
    simp only at h2
    by_cases hl : 256 < said.length
    · rw [if_pos hl] at h2
      obtain ⟨rfl, hg⟩ := h2
      have HG := hideP hg
      have HT1 := hideP ((TokB.set0 (w := World.drewN w _) HT.out 4).kept hg (by simp))
      clear hg
      go_wp2
      go_ret
      rw [HRR.out]
      simp only [if_pos hl]
      exact ⟨rfl, by decide, ⟨_, _, HT1.out⟩, (hu0.out _).trans (.ofNone HG.out sb tb)⟩
    · rw [if_neg hl] at h2
      obtain ⟨rfl, m, h3, h4, h5, h6, h7, h8⟩ := h2
      have H6 := hideP h6
      have H7 := hideP h7
      have H8 := hideP h8
      have H5 := hideP h5
      clear h5 h6 h7 h8
      go_wp2
      go_ret
      rw [HRR.out]
      simp only [if_neg hl]
      exact ⟨rfl, m, h3, h4, H5.out, H6.out, H7.out, (hu0.out _).trans H8.out⟩
theorem read_sign_c (S : ByteArray) (hS : S.size <= 65536) (sb mb k li ls : Nat) (hk : k < S.size) (tb : Nat) (kd : Int) (tx : ByteArray) (tl tc : Int) (hne : sb ≠ tb) (w : World) (hsc : Scan w sb S k li ls mb) (htk : TokB w tb kd tx tl tc)
    (D : DataW Unit) (hown : w.ownsMap prog 136 unitElem mb 8 D) (hD : PairsD D) (hmt : mb ≠ tb)
    (hl : isLet S[k] = false) (hd : isDig S[k] = false) (hq : ¬ S[k].toNat = 34) :
    Calls prog 51 #[.pointer (some ⟨sb, 0, none⟩), .pointer (some ⟨tb, 0, none⟩)] w (ReadPost S sb mb k li ls tb tl tc w (readV (S.data.toList.drop k))) := by
  have hq8 : ¬ S[k] = 34 := fun e => hq (by rw [e]; rfl)
  have hst := startsName_c S[k]
  have hdg := isDigit_c S[k]
  rw [hl] at hst
  rw [hd] at hdg
  have HST := hideP hst
  have HDG := hideP hdg
  rw [read_drop hk, hl, if_neg (by decide), hd, if_neg (by decide), if_neg hq8]
  have hrs := fun w a b c => readSign_c S hS sb mb k li ls hk tb 5 tx tl tc hne w a b D c hD
  have hle := signV_le (S.data.toList.drop k)
  rw [List.length_drop, byteArray_len] at hle
  obtain ⟨n, hn⟩ : ∃ n, n = signV (S.data.toList.drop k) := ⟨_, rfl⟩
  rw [<- hn] at hrs hle ⊢
  have HRS := hideP hrs
  have HS := hideP hsc
  have HT := hideP htk
  have HO := hideP hown
  have c0 := hsc.c0
  have c1 := hsc.c1
  have t0 := htk.c0
  have g0 := htk.fz 0
  have hkI : (k : Int) < (S.size : Int) := by omega
  have p1 : ((S[k].toNat : Int) == 34) = false := by simp; omega
  obtain ⟨R, hR⟩ : ∃ R, R = (if n = 0 then Rd.bad 5 else .tok 5 ((S.data.toList.drop k).take n) (S.data.toList.drop (k + n))) := ⟨_, rfl⟩
  rw [<- hR]
  have HRR := hideP hR
  clear hst hdg hrs hn hsc htk hl hd hq hq8 hR hown hD
  go_enter func51, ntmps51
  go_wp2
  go_quiet (fail)
  go_wp2_with fail
  refine (HST.out _).mono ?_
  rintro e w' ⟨rfl, rfl⟩
  go_wp2_with fail
  refine (HDG.out _).mono ?_
  rintro e w' ⟨rfl, rfl⟩
  go_wp2_with fail
  have hu0 : Hid (∀ n, Upd w ((w.drewN n).setCell ⟨tb, 0, none⟩ (.int .i64 5)) sb tb) := fun n => ((Upd.refl w sb tb).drewN n).setR 0 _
  refine (HRS.out _ ?_ ?_ ?_).mono ?_
  · exact Scan.kept (w := World.drewN w _) HS.out (grown_setCell _ ⟨tb, 0, none⟩ _) (by simpa using hne)
  · exact TokB.set0 (w := World.drewN w _) HT.out 5
  · exact World.ownsMap.setCell (w := World.drewN w _) HO.out hmt _
  intro e w1 hp
  have HP := hideP hp
  clear hp
  by_cases h0 : n = 0
  · have h2 := HP.out
    rw [SignPost, if_pos h0] at h2
    obtain ⟨rfl, hg⟩ := h2
    have HG := hideP hg
    have HT1 := hideP ((TokB.set0 (w := World.drewN w _) HT.out 5).kept hg (by simp))
    clear hg
    go_wp2
    go_ret
    rw [HRR.out, if_pos h0]
    exact ⟨rfl, by decide, ⟨_, _, HT1.out⟩, (hu0.out _).trans (.ofNone HG.out sb tb)⟩
  · have h2 := HP.out
    rw [SignPost, if_neg h0] at h2
    obtain ⟨rfl, h6, h7, h8⟩ := h2
    have H6 := hideP h6
    have H7 := hideP h7
    have H8 := hideP h8
    clear h6 h7 h8
    go_wp2
    go_ret
    rw [HRR.out, if_neg h0]
    exact ⟨rfl, k + n, by omega, by omega, rfl, H6.out, H7.out, (hu0.out _).trans H8.out⟩
/-- The token that begins where the scanner stands. -/
theorem read_c (S : ByteArray) (hS : S.size <= 65536) (sb mb k li ls : Nat) (hk : k < S.size) (tb : Nat) (kd : Int) (tx : ByteArray) (tl tc : Int) (hne : sb ≠ tb) (w : World) (hsc : Scan w sb S k li ls mb) (htk : TokB w tb kd tx tl tc)
    (hw : Words w) (hgs : 4 ≠ sb) (hgt : 4 ≠ tb) (D : DataW Unit) (hown : w.ownsMap prog 136 unitElem mb 8 D) (hD : PairsD D) (hmt : mb ≠ tb) :
    Calls prog 51 #[.pointer (some ⟨sb, 0, none⟩), .pointer (some ⟨tb, 0, none⟩)] w (ReadPost S sb mb k li ls tb tl tc w (readV (S.data.toList.drop k))) := by
  cases hl : isLet S[k]
  · cases hd : isDig S[k]
    · by_cases hq : S[k].toNat = 34
      · exact read_string_c S hS sb mb k li ls hk tb kd tx tl tc hne w hsc htk hq
      · exact read_sign_c S hS sb mb k li ls hk tb kd tx tl tc hne w hsc htk D hown hD hmt hl hd hq
    · exact read_digit_c S hS sb mb k li ls hk tb kd tx tl tc hne w hsc htk hl hd
  · exact read_name_c S hS sb mb k li ls hk tb kd tx tl tc hne w hsc htk hw hgs hgt hl
end Go.Proofs.YtlhmofphpfdjlaaGreatDoor.Lx
/- Where the tokens' function stands between two tokens; without a program in sight. -/
namespace Go.Proofs.YtlhmofphpfdjlaaGreatDoor.Lx
open Go.Proofs.Tryz
/-- Blanks are passed over, 'rest' is left at line li and column co, the tokens acc are there: the text's tokens are R. -/
def LexAt (R : Lx) (rest : List UInt8) (li co : Nat) (acc : List Tok) : Prop :=
  ∃ f l0 li0 co0, skipV false l0 li0 co0 = (rest, li, co) /\ rest.length <= f /\ R = (lexGo (f + 1) l0 li0 co0 acc.length).pre acc
theorem lexAt_start {l rest : List UInt8} {li co : Nat} (hl : l.length <= 65536) (h : skipV false l 1 1 = (rest, li, co)) : LexAt (lexV l) rest li co [] := by
  refine ⟨l.length, l, 1, 1, h, ?_, ?_⟩
  · have := skip_suffix false l 1 1
    rw [h] at this
    exact this.length_le
  · rw [lexV, if_neg (by omega), pre_nil]
    rfl
theorem lexAt_end {R : Lx} {li co : Nat} {acc : List Tok} (h : LexAt R [] li co acc) : R = .toks (acc ++ [⟨0, [], li, co⟩]) := by
  obtain ⟨f, l0, li0, co0, h1, _, h2⟩ := h
  rw [h2, lexGo_end h1]
  rfl
theorem lexAt_bad {R : Lx} {rest : List UInt8} {li co : Nat} {acc : List Tok} {e : Int} (h : LexAt R rest li co acc) (hr : rest ≠ []) (he : readV rest = .bad e) : R = .bad e li co := by
  obtain ⟨f, l0, li0, co0, h1, _, h2⟩ := h
  rw [h2, lexGo_bad h1 hr he]
  rfl
theorem lexAt_many {R : Lx} {rest t r2 : List UInt8} {li co : Nat} {acc : List Tok} {k : Int} (h : LexAt R rest li co acc) (hr : rest ≠ []) (he : readV rest = .tok k t r2) (hn : acc.length = 8192) : R = .bad 19 li co := by
  obtain ⟨f, l0, li0, co0, h1, _, h2⟩ := h
  rw [h2, hn, lexGo_many h1 hr he]
  rfl
theorem lexAt_tok {R : Lx} {rest t r2 r3 : List UInt8} {li co li3 co3 : Nat} {acc : List Tok} {k : Int} (h : LexAt R rest li co acc) (hr : rest ≠ []) (he : readV rest = .tok k t r2) (hn : acc.length ≠ 8192)
    (hs : skipV false r2 li (co + (rest.length - r2.length)) = (r3, li3, co3)) : LexAt R r3 li3 co3 (acc ++ [⟨k, t, li, co⟩]) := by
  obtain ⟨f, l0, li0, co0, h1, hf, h2⟩ := h
  obtain ⟨c, hc, hne⟩ := readV_rest he
  have hlt : r2.length < rest.length := by
    rw [hc, List.length_append]
    have := List.length_pos_iff.2 hne
    omega
  obtain ⟨g, rfl⟩ : ∃ g, f = g + 1 := ⟨f - 1, by omega⟩
  refine ⟨g, r2, li, _, hs, ?_, ?_⟩
  · have := skip_suffix false r2 li (co + (rest.length - r2.length))
    rw [hs] at this
    have := this.length_le
    simp at this
    omega
  · rw [h2, lexGo_tok h1 hr he hn, pre_pre, List.length_append]
    rfl
end Go.Proofs.YtlhmofphpfdjlaaGreatDoor.Lx
