/- Part. -/
import Derived.Test.YtbnjllkkhhkkaaaGreatDoorPart13
set_option maxRecDepth 100000
set_option maxHeartbeats 4000000
namespace Go.Proofs.YtbnjllkkhhkkaaaGreatDoor.Lx
open Tryz
open Go.RowKit
def Bt (S : ByteArray) (sb mb k : Nat) (li ls : Int) (tb : Nat) (tl tc : Int) (w : World) (r : Rd) (e : Ending) (w' : World) : Prop :=
 match r with
 | .inl x => e = .returned (.int .i64 x) ∧ x ≠ 0 ∧ (∃ kd tx, Ym w' tb kd tx tl tc) ∧ Yo w w' sb tb
 | .inr (kind, text, rest) => e = .returned (.int .i64 0) ∧ ∃ m : Nat, k < m ∧ m ≤ S.size ∧ rest = S.data.toList.drop m ∧ Yf w' sb S m li ls mb ∧ Ym w' tb kind ⟨text.toArray⟩ tl tc ∧ Yo w w' sb tb
theorem Ml {S : ByteArray} {k : Nat} (hk : k < S.size) : Xc (S.data.toList.drop k) =
  if Y8 S[k] then
   if 32 < ((S.data.toList.drop k).takeWhile Yc).length then .bad 2
   else .tok (if Wa.contains ((S.data.toList.drop k).takeWhile Yc) then 2 else 1) ((S.data.toList.drop k).takeWhile Yc) (S.data.toList.drop (Ya S k Yc))
  else if Ye S[k] then
   match Ww ((S.data.toList.drop k).takeWhile Ye) with
   | none => .bad 3
   | some _ => .tok 3 ((S.data.toList.drop k).takeWhile Ye) (S.data.toList.drop (Ya S k Ye))
  else if S[k] = 34 then
   match Xm S (k + 1) [] with
   | none => .bad 4
   | some (said, rest) => if 256 < said.length then .bad 2 else .tok 4 said rest
  else if Y7 (S.data.toList.drop k) = 0 then .bad 5
  else .tok 5 ((S.data.toList.drop k).take (Y7 (S.data.toList.drop k))) (S.data.toList.drop (k + Y7 (S.data.toList.drop k))) := by
 rw [Hq, Hq, ← List.drop_drop]
 unfold Xm
 have e := Y0 S k hk
 obtain ⟨l, hl⟩ := xE (S.data.toList.drop k)
 rw [← hl] at e ⊢
 conv => lhs; rw [e]
 rw [Xc, ← e]
 rfl
theorem Ja {S : ByteArray} {k : Nat} {p : UInt8 → Bool} (hk : k < S.size) (h : p S[k] = true) : k < Ya S k p := by
 rw [Pk hk h]
 unfold Ya
 omega
theorem Ha (l : List UInt8) : (ByteArray.mk l.toArray).size = l.length := by simp [ByteArray.size]
theorem zbx (S : ByteArray) (hS : S.size ≤ 65536) (sb mb k li ls : Nat) (hk : k < S.size) (tb : Nat) (kd : Int) (tx : ByteArray) (tl tc : Int) (hne : sb ≠ tb) (w : World) (hsc : Yf w sb S k li ls mb) (htk : Ym w tb kd tx tl tc)
  (hw : Words w) (hgs : 4 ≠ sb) (hgt : 4 ≠ tb) (hl : Y8 S[k] = true) :
  Calls prog 106 #[.pointer (some ⟨sb, 0, none⟩), .pointer (some ⟨tb, 0, none⟩)] w (Bt S sb mb k li ls tb tl tc w (Xc (S.data.toList.drop k))) := by
 rw [Ml hk, hl, if_pos rfl]
 have hst := Px S[k]
 rw [hl] at hst
 have HST := Za hst
 have hrow := Cj S hS sb mb k li ls (by omega) 
 have hgt2 := Ja (p := Yc) hk (by simp [Yc, hl])
 have hle := Qz S k Yc (by omega)
 have hlen : ((S.data.toList.drop k).takeWhile Yc).length ≤ 65536 := by
  have : k + ((S.data.toList.drop k).takeWhile Yc).length = Ya S k Yc := rfl
  omega
 obtain ⟨r, hr⟩ := xE (Ya S k Yc)
 obtain ⟨t, ht⟩ := xE ((S.data.toList.drop k).takeWhile Yc)
 rw [← hr] at hrow hgt2 hle ⊢
 rw [← ht] at hrow hlen ⊢
 obtain ⟨T, hT⟩ : ∃ T : ByteArray, T = ⟨t.toArray⟩ := ⟨_, rfl⟩
 rw [← hT] at hrow
 have hTs : T.size = t.length := by rw [hT, Ha]
 have hTd : T.data.toList = t := by rw [hT]
 have HROW := Za hrow
 have HS := Za hsc
 have HT := Za htk
 have HW := Za hw
 have HTT := Za hT
 have c0 := hsc.c0
 have c1 := hsc.c1
 have hkI : (k : Int) < (S.size : Int) := by omega
 have hw2 : T.size ≤ 32 ∨ 32 < T.size := by omega
 have hTs2 : T.size ≤ 65536 := by omega
 obtain ⟨R, hR⟩ := xE ((if 32 < t.length then Rd.bad 2 else Rd.tok (if Wa.contains t = true then 2 else 1) t (List.drop r S.data.toList)))
 rw [← hR]
 have HRR := Za hR
 clear hR
 have HTS := Za hTs
 have HTD := Za hTd
 clear hst hrow hr ht hsc htk hw hl hT hTs hTd hlen
 go_enter func106, ntmps106
 go_wp2
 go_quiet (fail)
 go_wp2_with fail
 refine (HST.o _).mono ?_
 rintro e w' ⟨rfl, rfl⟩
 go_wp2_with fail
 refine (HROW.o _ (by exact HS.o)).mono ?_
 rintro e w1 ⟨rfl, hs1, hg1⟩
 have hu1 := Za ((Yo.refl w sb tb).drewN _ |>.trans (Yo.ofL hg1 tb))
 have ht1 := Ym.kept (w := World.drewN w _) HT.o hg1 (by simpa using hne.symm)
 have HT1 := Za ht1
 have HS1 := Za hs1
 have t1 := ht1.c1
 have g0 := ht1.fz 0
 have g1 := ht1.fz 1
 have t0 := ht1.c0
 clear hs1 hg1 ht1
 rcases hw2 with h32 | h32
 ·have e1 : ¬ 32 < t.length := by have := HTS.o; omega
  have hcw := Ki T
  rw [HTD.o] at hcw
  cases hq : Wa.contains t
  ·rw [hq] at hcw
   have HC := Za hcw
   have HQ := Za hq
   clear hcw hq
   go_wp2_with fail
   refine (HC.o _ ?_).mono ?_
   ·exact ((hu1.o.setR 1 _).setR 0 _).words HW.o hgs hgt
   rintro e w' ⟨rfl, rfl⟩
   go_wp2
   go_ret
   rw [HRR.o, if_neg e1, HQ.o]
   refine ⟨rfl, r, hgt2, hle, rfl, ?_, ?_, ?_⟩
   ·exact (HS1.o.kept (Tj _ ⟨tb, 1, none⟩ _) (by simpa using hne)).kept (Tj _ ⟨tb, 0, none⟩ _) (by simpa using hne)
   ·rw [← HTT.o]
    exact (HT1.o.set1 T).set0 1
   ·exact (hu1.o.setR 1 _).setR 0 _
  ·rw [hq] at hcw
   have HC := Za hcw
   have HQ := Za hq
   clear hcw hq
   go_wp2_with fail
   refine (HC.o _ ?_).mono ?_
   ·exact ((hu1.o.setR 1 _).setR 0 _).words HW.o hgs hgt
   rintro e w' ⟨rfl, rfl⟩
   go_wp2
   go_ret
   rw [HRR.o, if_neg e1, HQ.o]
   refine ⟨rfl, r, hgt2, hle, rfl, ?_, ?_, ?_⟩
   ·exact ((HS1.o.kept (Tj _ ⟨tb, 1, none⟩ _) (by simpa using hne)).kept (Tj _ ⟨tb, 0, none⟩ _) (by simpa using hne)).kept (Tj _ ⟨tb, 0, none⟩ _) (by simpa using hne)
   ·rw [← HTT.o]
    exact ((HT1.o.set1 T).set0 1).set0 2
   ·exact ((hu1.o.setR 1 _).setR 0 _).setR 0 _
 ·have e1 : 32 < t.length := by have := HTS.o; omega
  go_wp2
  go_ret
  rw [HRR.o, if_pos e1]
  exact ⟨rfl, by decide, ⟨_, _, HT1.o.set1 T⟩, hu1.o.setR 1 _⟩
theorem zaw (S : ByteArray) (hS : S.size ≤ 65536) (sb mb k li ls : Nat) (hk : k < S.size) (tb : Nat) (kd : Int) (tx : ByteArray) (tl tc : Int) (hne : sb ≠ tb) (w : World) (hsc : Yf w sb S k li ls mb) (htk : Ym w tb kd tx tl tc)
  (hl : Y8 S[k] = false) (hd : Ye S[k] = true) :
  Calls prog 106 #[.pointer (some ⟨sb, 0, none⟩), .pointer (some ⟨tb, 0, none⟩)] w (Bt S sb mb k li ls tb tl tc w (Xc (S.data.toList.drop k))) := by
 have hst := Px S[k]
 have hdg := M3 S[k]
 rw [hl] at hst
 rw [hd] at hdg
 have HST := Za hst
 have HDG := Za hdg
 have hrow := Oz S hS sb mb k li ls (by omega)
 have hgt2 := Ja (p := Ye) hk hd
 have hle := Qz S k Ye (by omega)
 have hlen : ((S.data.toList.drop k).takeWhile Ye).length ≤ 65536 := by
  have : k + ((S.data.toList.drop k).takeWhile Ye).length = Ya S k Ye := rfl
  omega
 obtain ⟨R, hR⟩ := xE (Xc (S.data.toList.drop k))
 rw [← hR]
 rw [Ml hk, hl, if_neg (by decide), hd, if_pos rfl] at hR
 obtain ⟨r, hr⟩ := xE (Ya S k Ye)
 obtain ⟨t, ht⟩ := xE ((S.data.toList.drop k).takeWhile Ye)
 rw [← hr] at hrow hgt2 hle hR
 rw [← ht] at hrow hlen hR
 obtain ⟨T, hT⟩ : ∃ T : ByteArray, T = ⟨t.toArray⟩ := ⟨_, rfl⟩
 rw [← hT] at hrow
 have hTs : T.size = t.length := by rw [hT, Ha]
 have hTd : T.data.toList = t := by rw [hT]
 have hpa := parse_c T (by omega)
 rw [hTd] at hpa
 have HROW := Za hrow
 have HS := Za hsc
 have HT := Za htk
 have HTT := Za hT
 have c0 := hsc.c0
 have c1 := hsc.c1
 have hkI : (k : Int) < (S.size : Int) := by omega
 clear hst hdg hrow hr ht hsc htk hl hd hT hTs hTd hlen
 cases hv : Ww t with
 | none =>
  rw [hv] at hpa hR
  have HPA := Za hpa
  have HRR := Za hR
  clear hpa hR hv
  go_enter func106, ntmps106
  go_wp2
  go_quiet (fail)
  go_wp2_with fail
  refine (HST.o _).mono ?_
  rintro e w' ⟨rfl, rfl⟩
  go_wp2_with fail
  refine (HDG.o _).mono ?_
  rintro e w' ⟨rfl, rfl⟩
  go_wp2_with fail
  refine (HROW.o _ (by exact HS.o)).mono ?_
  rintro e w1 ⟨rfl, hs1, hg1⟩
  have hu1 := Za ((Yo.refl w sb tb).drewN _ |>.trans (Yo.ofL hg1 tb))
  have ht1 := Ym.kept (w := World.drewN w _) HT.o hg1 (by simpa using hne.symm)
  have HT1 := Za ht1
  have HS1 := Za hs1
  have t1 := ht1.c1
  have g0 := ht1.fz 0
  have g1 := ht1.fz 1
  have t0 := ht1.c0
  clear hs1 hg1 ht1
  go_wp2_with fail
  refine (HPA.o _).mono ?_
  rintro e w' ⟨rfl, rfl⟩
  simp only [Pd, Option.getD_none, Option.isSome_none]
  go_wp2
  go_ret
  rw [HRR.o]
  exact ⟨rfl, by decide, ⟨_, _, (HT1.o.set0 3).set1 T⟩, (hu1.o.setR 0 _).setR 1 _⟩
 | some x =>
  rw [hv] at hpa hR
  have HPA := Za hpa
  have HRR := Za hR
  clear hpa hR hv
  go_enter func106, ntmps106
  go_wp2
  go_quiet (fail)
  go_wp2_with fail
  refine (HST.o _).mono ?_
  rintro e w' ⟨rfl, rfl⟩
  go_wp2_with fail
  refine (HDG.o _).mono ?_
  rintro e w' ⟨rfl, rfl⟩
  go_wp2_with fail
  refine (HROW.o _ (by exact HS.o)).mono ?_
  rintro e w1 ⟨rfl, hs1, hg1⟩
  have hu1 := Za ((Yo.refl w sb tb).drewN _ |>.trans (Yo.ofL hg1 tb))
  have ht1 := Ym.kept (w := World.drewN w _) HT.o hg1 (by simpa using hne.symm)
  have HT1 := Za ht1
  have HS1 := Za hs1
  have t1 := ht1.c1
  have g0 := ht1.fz 0
  have g1 := ht1.fz 1
  have t0 := ht1.c0
  clear hs1 hg1 ht1
  go_wp2_with fail
  refine (HPA.o _).mono ?_
  rintro e w' ⟨rfl, rfl⟩
  simp only [Pd, Option.getD_some, Option.isSome_some]
  go_wp2
  go_ret
  rw [HRR.o]
  refine ⟨rfl, r, hgt2, hle, rfl, ?_, ?_, ?_⟩
  ·exact (HS1.o.kept (Tj _ ⟨tb, 0, none⟩ _) (by simpa using hne)).kept (Tj _ ⟨tb, 1, none⟩ _) (by simpa using hne)
  ·rw [← HTT.o]
   exact (HT1.o.set0 3).set1 T
  ·exact (hu1.o.setR 0 _).setR 1 _
theorem E3 (S : ByteArray) (hS : S.size ≤ 65536) (sb mb k li ls : Nat) (hk : k < S.size) (tb : Nat) (kd : Int) (tx : ByteArray) (tl tc : Int) (hne : sb ≠ tb) (w : World) (hsc : Yf w sb S k li ls mb) (htk : Ym w tb kd tx tl tc)
  (hq : S[k].toNat = 34) :
  Calls prog 106 #[.pointer (some ⟨sb, 0, none⟩), .pointer (some ⟨tb, 0, none⟩)] w (Bt S sb mb k li ls tb tl tc w (Xc (S.data.toList.drop k))) := by
 have hq8 : S[k] = 34 := UInt8.toNat_inj.1 hq
 have hl : Y8 S[k] = false := by rw [hq8]; decide
 have hd : Ye S[k] = false := by rw [hq8]; decide
 have hst := Px S[k]
 have hdg := M3 S[k]
 rw [hl] at hst
 rw [hd] at hdg
 have HST := Za hst
 have HDG := Za hdg
 rw [Ml hk, hl, if_neg (by decide), hd, if_neg (by decide), if_pos hq8]
 have hrs := zcb S hS sb mb k li ls hk tb 4 tx tl tc hne
 obtain ⟨o, ho⟩ := xE (Xm S (k + 1) [])
 rw [← ho] at hrs ⊢
 have HRS := Za hrs
 have HS := Za hsc
 have HT := Za htk
 have c0 := hsc.c0
 have c1 := hsc.c1
 have t0 := htk.c0
 have g0 := htk.fz 0
 have hkI : (k : Int) < (S.size : Int) := by omega
 have p1 : ((S[k].toNat : Int) == 34) = true := by simp; omega
 obtain ⟨R, hR⟩ := xE ((match o with | none => Rd.bad 4 | some (said, rest) => if 256 < said.length then .bad 2 else .tok 4 said rest))
 rw [← hR]
 have HRR := Za hR
 clear hst hdg hrs ho hsc htk hl hd hq hq8 hR
 go_enter func106, ntmps106
 go_wp2
 go_quiet (fail)
 go_wp2_with fail
 refine (HST.o _).mono ?_
 rintro e w' ⟨rfl, rfl⟩
 go_wp2_with fail
 refine (HDG.o _).mono ?_
 rintro e w' ⟨rfl, rfl⟩
 go_wp2_with fail
 have hu0 : xQ (∀ n, Yo w ((w.drewN n).setCell ⟨tb, 0, none⟩ (.int .i64 4)) sb tb) := fun n => ((Yo.refl w sb tb).drewN n).setR 0 _
 refine (HRS.o _ ?_ ?_).mono ?_
 ·exact Yf.kept (w := World.drewN w _) HS.o (Tj _ ⟨tb, 0, none⟩ _) (by simpa using hne)
 ·exact Ym.set0 (w := World.drewN w _) HT.o 4
 intro e w1 hp
 have HP := Za hp
 clear hp
 cases o with
 | none =>
  obtain ⟨rfl, hg⟩ := HP.o
  have HG := Za hg
  have HT1 := Za ((Ym.set0 (w := World.drewN w _) HT.o 4).kept hg (by simp))
  clear hg
  go_wp2
  go_ret
  rw [HRR.o]
  exact ⟨rfl, by decide, ⟨_, _, HT1.o⟩, (hu0.o _).trans (.ofNone HG.o sb tb)⟩
 | some sr =>
  obtain ⟨said, rest⟩ := sr
  have h2 := HP.o
  unfold L1 at h2
  simp only at h2
  by_cases hl : 256 < said.length
  ·rw [if_pos hl] at h2
   obtain ⟨rfl, hg⟩ := h2
   have HG := Za hg
   have HT1 := Za ((Ym.set0 (w := World.drewN w _) HT.o 4).kept hg (by simp))
   clear hg
   go_wp2
   go_ret
   rw [HRR.o]
   simp only [if_pos hl]
   exact ⟨rfl, by decide, ⟨_, _, HT1.o⟩, (hu0.o _).trans (.ofNone HG.o sb tb)⟩
  ·rw [if_neg hl] at h2
   obtain ⟨rfl, m, h3, h4, h5, h6, h7, h8⟩ := h2
   have H6 := Za h6
   have H7 := Za h7
   have H8 := Za h8
   have H5 := Za h5
   clear h5 h6 h7 h8
   go_wp2
   go_ret
   rw [HRR.o]
   simp only [if_neg hl]
   exact ⟨rfl, m, h3, h4, H5.o, H6.o, H7.o, (hu0.o _).trans H8.o⟩
theorem zgx (S : ByteArray) (hS : S.size ≤ 65536) (sb mb k li ls : Nat) (hk : k < S.size) (tb : Nat) (kd : Int) (tx : ByteArray) (tl tc : Int) (hne : sb ≠ tb) (w : World) (hsc : Yf w sb S k li ls mb) (htk : Ym w tb kd tx tl tc)
  (D : DataW Unit) (hown : w.ownsMap prog 199 unitElem mb 8 D) (hD : Nd D) (hmt : mb ≠ tb)
  (hl : Y8 S[k] = false) (hd : Ye S[k] = false) (hq : ¬ S[k].toNat = 34) :
  Calls prog 106 #[.pointer (some ⟨sb, 0, none⟩), .pointer (some ⟨tb, 0, none⟩)] w (Bt S sb mb k li ls tb tl tc w (Xc (S.data.toList.drop k))) := by
 have hq8 : ¬ S[k] = 34 := fun e => hq (by rw [e]; rfl)
 have hst := Px S[k]
 have hdg := M3 S[k]
 rw [hl] at hst
 rw [hd] at hdg
 have HST := Za hst
 have HDG := Za hdg
 rw [Ml hk, hl, if_neg (by decide), hd, if_neg (by decide), if_neg hq8]
 have hrs := fun w a b c => Ch S hS sb mb k li ls hk tb 5 tx tl tc hne w a b D c hD
 have hle := L3 (S.data.toList.drop k)
 rw [List.length_drop, Yp] at hle
 obtain ⟨n, hn⟩ := xE (Y7 (S.data.toList.drop k))
 rw [← hn] at hrs hle ⊢
 have HRS := Za hrs
 have HS := Za hsc
 have HT := Za htk
 have HO := Za hown
 have c0 := hsc.c0
 have c1 := hsc.c1
 have t0 := htk.c0
 have g0 := htk.fz 0
 have hkI : (k : Int) < (S.size : Int) := by omega
 have p1 : ((S[k].toNat : Int) == 34) = false := by simp; omega
 obtain ⟨R, hR⟩ := xE ((if n = 0 then Rd.bad 5 else .tok 5 ((S.data.toList.drop k).take n) (S.data.toList.drop (k + n))))
 rw [← hR]
 have HRR := Za hR
 clear hst hdg hrs hn hsc htk hl hd hq hq8 hR hown hD
 go_enter func106, ntmps106
 go_wp2
 go_quiet (fail)
 go_wp2_with fail
 refine (HST.o _).mono ?_
 rintro e w' ⟨rfl, rfl⟩
 go_wp2_with fail
 refine (HDG.o _).mono ?_
 rintro e w' ⟨rfl, rfl⟩
 go_wp2_with fail
 have hu0 : xQ (∀ n, Yo w ((w.drewN n).setCell ⟨tb, 0, none⟩ (.int .i64 5)) sb tb) := fun n => ((Yo.refl w sb tb).drewN n).setR 0 _
 refine (HRS.o _ ?_ ?_ ?_).mono ?_
 ·exact Yf.kept (w := World.drewN w _) HS.o (Tj _ ⟨tb, 0, none⟩ _) (by simpa using hne)
 ·exact Ym.set0 (w := World.drewN w _) HT.o 5
 ·exact World.ownsMap.setCell (w := World.drewN w _) HO.o hmt _
 intro e w1 hp
 have HP := Za hp
 clear hp
 by_cases h0 : n = 0
 ·have h2 := HP.o
  rw [Ku, if_pos h0] at h2
  obtain ⟨rfl, hg⟩ := h2
  have HG := Za hg
  have HT1 := Za ((Ym.set0 (w := World.drewN w _) HT.o 5).kept hg (by simp))
  clear hg
  go_wp2
  go_ret
  rw [HRR.o, if_pos h0]
  exact ⟨rfl, by decide, ⟨_, _, HT1.o⟩, (hu0.o _).trans (.ofNone HG.o sb tb)⟩
 ·have h2 := HP.o
  rw [Ku, if_neg h0] at h2
  obtain ⟨rfl, h6, h7, h8⟩ := h2
  have H6 := Za h6
  have H7 := Za h7
  have H8 := Za h8
  clear h6 h7 h8
  go_wp2
  go_ret
  rw [HRR.o, if_neg h0]
  exact ⟨rfl, k + n, by omega, by omega, rfl, H6.o, H7.o, (hu0.o _).trans H8.o⟩
theorem read_c (S : ByteArray) (hS : S.size ≤ 65536) (sb mb k li ls : Nat) (hk : k < S.size) (tb : Nat) (kd : Int) (tx : ByteArray) (tl tc : Int) (hne : sb ≠ tb) (w : World) (hsc : Yf w sb S k li ls mb) (htk : Ym w tb kd tx tl tc)
  (hw : Words w) (hgs : 4 ≠ sb) (hgt : 4 ≠ tb) (D : DataW Unit) (hown : w.ownsMap prog 199 unitElem mb 8 D) (hD : Nd D) (hmt : mb ≠ tb) :
  Calls prog 106 #[.pointer (some ⟨sb, 0, none⟩), .pointer (some ⟨tb, 0, none⟩)] w (Bt S sb mb k li ls tb tl tc w (Xc (S.data.toList.drop k))) := by
 cases hl : Y8 S[k]
 ·cases hd : Ye S[k]
  ·by_cases hq : S[k].toNat = 34
   ·exact E3 S hS sb mb k li ls hk tb kd tx tl tc hne w hsc htk hq
   ·exact zgx S hS sb mb k li ls hk tb kd tx tl tc hne w hsc htk D hown hD hmt hl hd hq
  ·exact zaw S hS sb mb k li ls hk tb kd tx tl tc hne w hsc htk hl hd
 ·exact zbx S hS sb mb k li ls hk tb kd tx tl tc hne w hsc htk hw hgs hgt hl
end Go.Proofs.YtbnjllkkhhkkaaaGreatDoor.Lx
namespace Go.Proofs.YtbnjllkkhhkkaaaGreatDoor.Lx
open Tryz
def T6 (R : Lx) (rest : List UInt8) (li co : Nat) (acc : List Tok) : Prop :=
 ∃ f l0 li0 co0, Yy false l0 li0 co0 = (rest, li, co) ∧ rest.length ≤ f ∧ R = (Uu (f + 1) l0 li0 co0 acc.length).pre acc
theorem G6 {l rest : List UInt8} {li co : Nat} (hl : l.length ≤ 65536) (h : Yy false l 1 1 = (rest, li, co)) : T6 (Wb l) rest li co [] := by
 refine ⟨l.length, l, 1, 1, h, ?_, ?_⟩
 ·have := Ko false l 1 1
  rw [h] at this
  exact this.length_le
 ·rw [Wb, if_neg (by omega), Ov]
  rfl
theorem Rb {R : Lx} {li co : Nat} {acc : List Tok} (h : T6 R [] li co acc) : R = .toks (acc ++ [⟨0, [], li, co⟩]) := by
 obtain ⟨f, l0, li0, co0, h1, _, h2⟩ := h
 rw [h2, lexGo_end h1]
 rfl
theorem Gf {R : Lx} {rest : List UInt8} {li co : Nat} {acc : List Tok} {e : Int} (h : T6 R rest li co acc) (hr : rest ≠ []) (he : Xc rest = .bad e) : R = .bad e li co := by
 obtain ⟨f, l0, li0, co0, h1, _, h2⟩ := h
 rw [h2, lexGo_bad h1 hr he]
 rfl
theorem F2 {R : Lx} {rest t r2 : List UInt8} {li co : Nat} {acc : List Tok} {k : Int} (h : T6 R rest li co acc) (hr : rest ≠ []) (he : Xc rest = .tok k t r2) (hn : acc.length = 8192) : R = .bad 19 li co := by
 obtain ⟨f, l0, li0, co0, h1, _, h2⟩ := h
 rw [h2, hn, lexGo_many h1 hr he]
 rfl
theorem Fr {R : Lx} {rest t r2 r3 : List UInt8} {li co li3 co3 : Nat} {acc : List Tok} {k : Int} (h : T6 R rest li co acc) (hr : rest ≠ []) (he : Xc rest = .tok k t r2) (hn : acc.length ≠ 8192)
  (hs : Yy false r2 li (co + (rest.length - r2.length)) = (r3, li3, co3)) : T6 R r3 li3 co3 (acc ++ [⟨k, t, li, co⟩]) := by
 obtain ⟨f, l0, li0, co0, h1, hf, h2⟩ := h
 obtain ⟨c, hc, hne⟩ := Hn he
 have hlt : r2.length < rest.length := by
  rw [hc, List.length_append]
  have := List.length_pos_iff.2 hne
  omega
 obtain ⟨g, rfl⟩ : ∃ g, f = g + 1 := ⟨f - 1, by omega⟩
 refine ⟨g, r2, li, _, hs, ?_, ?_⟩
 ·have := Ko false r2 li (co + (rest.length - r2.length))
  rw [hs] at this
  have := this.length_le
  simp at this
  omega
 ·rw [h2, lexGo_tok h1 hr he hn, zea, List.length_append]
  rfl
end Go.Proofs.YtbnjllkkhhkkaaaGreatDoor.Lx
namespace Go.Proofs.YtbnjllkkhhkkaaaGreatDoor.Lx
open Tryz
open Go.RowKit
def Tok.cells (t : Tok) : List Value := [.int .i64 t.kind, .string ⟨t.text.toArray⟩, .int .i64 t.line, .int .i64 t.col]
def tokCells (ts : List Tok) : List Value := ts.flatMap Tok.cells
theorem Fi (ts : List Tok) (t : Tok) : tokCells (ts ++ [t]) = tokCells ts ++ Tok.cells t := by simp [tokCells]
def diagA (li co e : Int) : Value := .agg #[.int .i64 0, .int .i64 li, .int .i64 co, .int .i64 e]
def LexPost (w : World) (R : Lx) (e : Ending) (w' : World) : Prop :=
 Below w.heap.size w w' ∧ match R with
 | .inr (x, li, co) => e = .returned (.tuple #[.slice none 0 0, diagA li co x])
 | .inl ts => ∃ g cap, e = .returned (.tuple #[.slice (some ⟨g, 0, none⟩) ts.length cap, diagA 0 0 0]) ∧ w'.ownsRow w.heap.size 108 4 (.slice (some ⟨g, 0, none⟩) ts.length cap) ts.length (tokCells ts)
theorem results_tmp_cell {fn : Func} {p u : Tmp} {ty : TypeId} (h : fn.results = #[.tmp u, .cell p ty]) (tmps : Array Value) {P : Program} {w : World} {g : Nat} {t : TypeId} {cs : Array Value} {fr : Nat × Nat} {fs : Array Field}
  (hp : tmps.getD p undef = .pointer (some ⟨g, 0, none⟩)) (hg : w.heap[g]? = some (.cells cs t fr))
  (hu : P.underlying ty = some (.struct fs)) (hi : (P.info? ty).map (·.size) = some cs.size) :
  (results fn tmps).run P w = .ok (.tuple #[tmps.getD u undef, .agg cs]) w := by
 have hp' : tmps[p]?.getD undef = .pointer (some ⟨g, 0, none⟩) := by simpa using hp
 simp [results, h, hp', asAddr, run_loadVar_row w g t ty cs fr _ hg hu rfl hi]
theorem Mi : (prog.info? 30).map (·.size) = some 4 := by kernel_rfl
theorem Fb : (prog.info? 108).map (fun i => (i.zero, i.size, i.bytes)) = some (some (.agg #[.int .i64 0, .string { data := #[] }, .int .i64 0, .int .i64 0]), 4, 40) := by kernel_rfl
theorem O4 (S : ByteArray) (hS : 65536 < S.size) (hS2 : S.size ≤ 140737488351232) (w : World) :
  Calls prog 53 #[.string S] w (LexPost w (.bad 2 1 1)) := by
 go_enter func53, ntmps53
 go_wp2
 refine bodyPost_ret (results_tmp_cell rfl _ rfl (xL w _) underlying30 Mi) rfl ?_
 exact ⟨(Below.refl _ w).alloc (xR) _, rfl⟩
def Uo (w : World) (b : Nat) (li co e : Int) : Prop := w.heap[b]? = some (.cells #[.int .i64 0, .int .i64 li, .int .i64 co, .int .i64 e] 30 (0, 0))
section
variable {w : World} {b : Nat} {li co e : Int}
theorem Uo.c (h : Uo w b li co e) (o : Nat) (ho : o < 4) : w.cell? ⟨b, o, none⟩ = some (([.int .i64 0, .int .i64 li, .int .i64 co, .int .i64 e] : List Value).getD o undef) := by
 unfold Uo at h
 match o, ho with
 | 0, _ => simp [World.cell?, h]
 | 1, _ => simp [World.cell?, h]
 | 2, _ => simp [World.cell?, h]
 | 3, _ => simp [World.cell?, h]
theorem Uo.fz (h : Uo w b li co e) (o : Nat) : w.frozen? ⟨b, o, none⟩ = false := by unfold Uo at h; simp [World.frozen?, h]
theorem Uo.set (h : Uo w b li co e) (li' co' e' : Int) : Uo ((((w.setCell ⟨b, 0, none⟩ (.int .i64 0)).setCell ⟨b, 1, none⟩ (.int .i64 li')).setCell ⟨b, 2, none⟩ (.int .i64 co')).setCell ⟨b, 3, none⟩ (.int .i64 e')) b li' co' e' :=
 Z9 (Z9 (Z9 (Z9 h)))
end
theorem Q3 {a w : World} {b : Nat} (h : Below b a w) (x y z u : Value) : Below b a ((((w.setCell ⟨b, 0, none⟩ x).setCell ⟨b, 1, none⟩ y).setCell ⟨b, 2, none⟩ z).setCell ⟨b, 3, none⟩ u) :=
 (((h.setCell (xR) _).setCell (xR) _).setCell (xR) _).setCell (xR) _
structure Te (w wr : World) (D : DataW Unit) (sb : Nat) (v : Value) (acc : List Tok) : Prop where
 mp : wr.ownsMap prog 199 unitElem (w.heap.size + 1) 8 D
 dg : Uo wr w.heap.size 0 0 0
 bl : Below w.heap.size w wr
 wd : Words wr
 ow : wr.ownsRow (sb + 1) 108 4 v acc.length (tokCells acc)
 sbl : w.heap.size + 2 ≤ sb
 sz : sb < wr.heap.size
 w0 : 4 < w.heap.size
theorem Qt {w : World} {B e z n : Nat} {v : Value} {xs : List Value} (h : w.ownsRow B e z v n xs) : ∀ j, v.ownBlock = some j → B ≤ j ∧ j < w.heap.size := by
 intro j hj
 rcases h.2 with ⟨h1, h2⟩ | ⟨g, cap, cur, h1, h2, h3, _⟩
 ·rw [h1] at hj; cases hj
 ·rw [h1] at hj
  simp [Value.ownBlock] at hj
  have := xB h3
  omega
section
variable {w wr wr' : World} {D : DataW Unit} {sb : Nat} {v : Value} {acc : List Tok}
theorem Te.upd (h : Te w wr D sb v acc) {tb : Nat} (hu : Yo wr wr' sb tb) (ht : sb + 1 ≤ tb) (hv : v.ownBlock ≠ some tb) : Te w wr' D sb v acc where
 mp := hu.map h.mp (by have := h.sbl; omega) (by have := h.sbl; omega)
 dg := by
  have := h.sbl
  have := h.sz
  unfold Uo
  rw [hu.block _ (by omega) (by omega) (by omega)]
  exact h.dg
 bl := h.bl.trans (hu.below h.bl.size (by have := h.sbl; omega) (by have := h.sbl; omega))
 wd := hu.words h.wd (by have := h.sbl; have := h.w0; omega) (by have := h.sbl; have := h.w0; omega)
 ow := hu.owns h.ow (fun e => by have := (Qt h.ow _ e).1; omega) hv
 sbl := h.sbl
 sz := xT h.sz hu.size
 w0 := h.w0
theorem Te.none (h : Te w wr D sb v acc) (hg : wr.grownBy wr' none) : Te w wr' D sb v acc :=
 h.upd (tb := wr.heap.size) (Yo.ofNone hg sb _) h.sz (fun e => by have := (Qt h.ow _ e).2; omega)
theorem Te.skip (h : Te w wr D sb v acc) (hg : wr.grownBy wr' (some sb)) : Te w wr' D sb v acc :=
 h.upd (tb := wr.heap.size) (Yo.ofL hg _) h.sz (fun e => by have := (Qt h.ow _ e).2; omega)
theorem Te.app (h : Te w wr D sb v acc) {ob : Obj} {v' : Value} {w1 : World} {t : Tok} (ho : w1.ownsRow (sb + 1) 108 4 v' (acc.length + 1) (tokCells acc ++ Tok.cells t)) (hg : (wr.alloc ob).grownBy w1 v.ownBlock) : Te w w1 D sb v' (acc ++ [t]) ∧
  ∀ i, i < wr.heap.size → i ≤ sb → w1.heap[i]? = wr.heap[i]? := by
 have hlow : ∀ i, i < wr.heap.size → i ≤ sb → w1.heap[i]? = wr.heap[i]? := fun i hi hle => by
  rw [hg.block i (by simp; omega) (fun e => by have := (Qt h.ow _ e.symm).1; omega), xA hi]
 have hsz := h.sz
 have hsbl := h.sbl
 have hw0 := h.w0
 refine ⟨⟨?_, ?_, ?_, ?_, ?_, hsbl, ?_, hw0⟩, hlow⟩
 ·obtain ⟨es, clock, hh, r⟩ := h.mp
  exact ⟨es, clock, by rw [hlow _ (xB hh) (by omega)]; exact hh, r⟩
 ·unfold Uo
  rw [hlow _ (by omega) (by omega)]
  exact h.dg
 ·refine (h.bl.alloc h.bl.size _).grown hg (by have := h.bl.size; simp; omega) fun j hj => ?_
  have := (Qt h.ow _ hj).1
  omega
 ·intro i hi
  rw [World.cell?_of_block (w := wr) (hlow 4 (by omega) (by omega))]
  exact h.wd i hi
 ·rw [List.length_append, Fi]
  exact ho
 ·have := hg.size
  simp at this
  omega
end
theorem K9 (W : World) (t : Tok) (ty : TypeId) : ∀ j u, (Tok.cells t)[j]? = some u → (W.alloc (.cells #[.int .i64 t.kind, .string ⟨t.text.toArray⟩, .int .i64 t.line, .int .i64 t.col] ty)).cell? ((⟨W.heap.size, 0, none⟩ : Addr).add j) = some u := by
 intro j u hj
 have hadd : (⟨W.heap.size, 0, none⟩ : Addr).add j = ⟨W.heap.size, j, none⟩ := by unfold Addr.add; split <;> simp_all
 rw [hadd, cell_of_row _ _ j _ ty (0, 0) (xL W _)]
 simpa [Tok.cells] using hj
theorem K1 (t : Tok) : ∀ u ∈ Tok.cells t, u.oneCell' = true := by
 intro u hu
 simp [Tok.cells] at hu
 rcases hu with rfl | rfl | rfl | rfl <;> rfl
theorem F0 {w : World} {B B' e z n : Nat} {v : Value} {xs : List Value} (h : w.ownsRow B e z v n xs) (hB : B' ≤ B) : w.ownsRow B' e z v n xs := by
 obtain ⟨h1, h2⟩ := h
 refine ⟨h1, ?_⟩
 rcases h2 with h2 | ⟨g, cap, cur, rfl, hg, hh, r⟩
 ·exact .inl h2
 ·exact .inr ⟨g, cap, cur, rfl, by omega, hh, r⟩
theorem zef (S : ByteArray) (hS : S.size ≤ 65536) (w : World) (hw : Words w) :
  Calls prog 53 #[.string S] w (LexPost w (Wb S.data.toList)) := by
 obtain ⟨R, hR⟩ := xE (Wb S.data.toList)
 rw [← hR]
 have HR := Za hR
 have HW := Za hw
 clear hR hw
 go_enter func53, ntmps53
 go_wp2_with fail
 refine (I1 _).mono ?_
 rintro e w1 ⟨rfl, D, hown, hD, hb⟩
 have HD := Za hD
 have hsz := hown.lt
 simp only [xS] at hown hsz hb
 have hcore : xQ (Te w (w1.alloc (.cells #[.string S, .int .i64 0, .int .i64 1, .int .i64 0, .map (some (w.heap.size + 1))] 146)) D w1.heap.size (.slice none 0 0) []) := by
  have hb1 : Below w.heap.size w w1 := (((Below.refl _ w).alloc (xR) _).trans (hb.mono (Nat.le_succ _)))
  refine ⟨hown.alloc _, ?_, hb1.alloc hb1.size _, ?_, World.ownsRow_nil _ _ _ _, by omega, by simp, HW.o.lt⟩
  ·unfold Uo
   rw [xA (by omega), hb.block w.heap.size (xU _)]
   exact xL w _
  ·exact HW.o.below (hb1.alloc hb1.size _)
 clear hD hown hb
 go_wp2_with fail
 refine (Dr S hS w1.heap.size (w.heap.size + 1) 0 1 0 (by omega) (by omega) (by omega) _ (xL w1 _)).mono ?_
 rintro e w2 ⟨rfl, k0, li0, ls0, hsc, hg, _, hk, hls, hli, hskip⟩
 have hc2 := Za (hcore.o.skip hg)
 have hat := Za (G6 (l := S.data.toList) (by rw [Yp]; exact hS) hskip)
 have hs2 := Za hsc
 have h0l : ([] : List Tok).length ≤ 8192 := by simp
 rw [← HR.o] at hat
 clear hcore hg hskip hsc
 obtain ⟨i0, hi, hz0, hz1, hz2⟩ := info_parts Fb
 obtain ⟨sb, hsb⟩ := xE w1.heap.size
 rw [← hsb] at hc2 hs2 ⊢
 clear hsb hsz
 go_wp2
 go_loopw [5] (fun v wr => ∃ (k li ls : Nat) (acc : List Tok), xQ (Te w wr D sb v acc) ∧ xQ (Yf wr sb S k li ls (w.heap.size + 1)) ∧ k ≤ S.size ∧ ls ≤ k ∧ li ≤ k + 1 ∧ acc.length ≤ 8192 ∧ xQ (T6 R (S.data.toList.drop k) li (k - ls + 1) acc)) (fun _ wr => S.size - Kk wr sb)
 case atStart => exact ⟨k0, li0, ls0, [], hc2, hs2, hk, hls, hli, h0l, hat⟩
 case round =>
  clear hc2 hs2 hat hk hls hli
  obtain ⟨k, li, ls, acc, hco, hsc, hk, hls, hli, hal, hat⟩ := hrel
  obtain ⟨a, cap, rfl⟩ := H9 hco.o.ow
  have c1 := hsc.o.c1
  have hat1 := Za (Yf.at hsc.o)
  by_cases hlt : k < S.size
  ·have hne : S.data.toList.drop k ≠ [] := by
    rw [Y0 S k hlt]; simp
   have HNE := Za hne
   clear hne
   go_wp2_with fail
   refine (Gx S sb (w.heap.size + 1) k li ls (by omega) hls _ hsc.o).mono ?_
   rintro e wa ⟨rfl, hga⟩
   have hcoa := Za (hco.o.none (hga.trans (World.grownBy_alloc wa (.cells #[.int .i64 0, .string ByteArray.empty, .int .i64 li, .int .i64 ((k - ls + 1 : Nat) : Int)] 108) _)))
   have hsca := Za (hsc.o.kept (hga.trans (World.grownBy_alloc wa (.cells #[.int .i64 0, .string ByteArray.empty, .int .i64 li, .int .i64 ((k - ls + 1 : Nat) : Int)] 108) _)) (by simp))
   have hszw : sb < wa.heap.size := xT hco.o.sz hga.size
   have hvn : xQ ((Value.slice a acc.length cap).ownBlock ≠ some wa.heap.size) := fun e => by
    have := (Qt hco.o.ow _ e).2
    have := hga.size
    omega
   have hsbl := hco.o.sbl
   have hw0 := hco.o.w0
   clear hga c1 hco hsc
   unfold tokA
   go_wp2_with fail
   refine (read_c S hS sb (w.heap.size + 1) k li ls hlt wa.heap.size 0 ByteArray.empty li ((k - ls + 1 : Nat) : Int) (by omega) _ hsca.o (xL wa _) hcoa.o.wd (by omega) (by omega) D hcoa.o.mp HD.o (by omega)).mono ?_
   intro e wc hp
   have HP := Za hp
   clear hp
   cases hrd : Xc (S.data.toList.drop k) with
   | inl x =>
    have hp := HP.o
    rw [hrd] at hp
    obtain ⟨rfl, hx, ⟨kd, tx, htb⟩, hu⟩ := hp
    have hbad := Gf hat.o HNE.o hrd
    have hcoc := hcoa.o.upd hu (by omega) hvn.o
    have t2 := htb.c2
    have t3 := htb.c3
    have hdg := Za hcoc.dg
    have hbl := Za hcoc.bl
    have g0 := hcoc.dg.c 0 (by omega)
    have g1 := hcoc.dg.c 1 (by omega)
    have g2 := hcoc.dg.c 2 (by omega)
    have g3 := hcoc.dg.c 3 (by omega)
    simp only [List.getD_cons_zero, List.getD_cons_succ] at g0 g1 g2 g3
    have z0 := hcoc.dg.fz 0
    have z1 := hcoc.dg.fz 1
    have z2 := hcoc.dg.fz 2
    have z3 := hcoc.dg.fz 3
    have x0 : (x == 0) = false := by simpa using hx
    subst hbad
    clear hrd HP hu hcoc hcoa hsca htb
    go_wp2
    go_region
    all_goals
     go_wp2
     refine bodyPost_ret (results_tmp_cell rfl _ rfl (hdg.o.set _ _ _) underlying30 Mi) rfl ?_
     exact ⟨(Q3 hbl.o _ _ _ _).drew, rfl⟩
   | inr q =>
    obtain ⟨kd, t, rest⟩ := q
    have hp := HP.o
    rw [hrd] at hp
    obtain ⟨rfl, m, hkm, hmS, zht, hscc, htb, hu⟩ := hp
    have hcoc := Za (hcoa.o.upd hu (by omega) hvn.o)
    have hscc := Za hscc
    have HRD := Za hrd
    have zhy := Za zht
    have t0 := htb.c0
    have t1 := htb.c1
    have t2 := htb.c2
    have t3 := htb.c3
    clear hrd HP hu hcoa hsca htb zht
    by_cases zhz : acc.length = 8192
    ·have hm1 : ((acc.length : Int) == 8192) = true := by simp; omega
     have hbad := F2 hat.o HNE.o HRD.o zhz
     have hdg := Za hcoc.o.dg
     have hbl := Za hcoc.o.bl
     have g0 := hcoc.o.dg.c 0 (by omega)
     have g1 := hcoc.o.dg.c 1 (by omega)
     have g2 := hcoc.o.dg.c 2 (by omega)
     have g3 := hcoc.o.dg.c 3 (by omega)
     simp only [List.getD_cons_zero, List.getD_cons_succ] at g0 g1 g2 g3
     have z0 := hcoc.o.dg.fz 0
     have z1 := hcoc.o.dg.fz 1
     have z2 := hcoc.o.dg.fz 2
     have z3 := hcoc.o.dg.fz 3
     subst hbad
     go_wp2
     go_region
     all_goals
      go_wp2
      refine bodyPost_ret (results_tmp_cell rfl _ rfl (hdg.o.set _ _ _) underlying30 Mi) rfl ?_
      exact ⟨(Q3 hbl.o _ _ _ _).drew, rfl⟩
    ·have hm1 : ((acc.length : Int) == 8192) = false := by simp; omega
     go_wp2_with (at_builtin; refine wpList_append_own _ rfl (.tmp 39) (.tmp 41) 97 rfl (sb + 1) 108 i0 _ 4 40 underlying97 hi hz0 hz1 hz2 rfl (by decide) _ _ _ rfl (hcoc.o.ow.alloc _) ⟨_, 0, none⟩ 1 1 (Tok.cells ⟨kd, t, li, k - ls + 1⟩) rfl rfl (K9 _ ⟨kd, t, li, k - ls + 1⟩ 108) (K1 _) (by unfold maxLen; omega) (by omega) (by have := hcoc.o.sz; simp; omega) ?_)
     intro v' w3 zho zhn _
     obtain ⟨hco3, hlow⟩ := hcoc.o.app zho zhn
     have hsc3 : Yf w3 sb S m li ls (w.heap.size + 1) := by
      unfold Yf
      rw [hlow sb hcoc.o.sz (xR)]
      exact hscc.o
     have HCO3 := Za hco3
     have HSC3 := Za hsc3
     clear zho zhn hco3 hlow hsc3 t0 t1 t2 t3 hcoc hscc
     go_wp2_with fail
     refine (Dr S hS sb (w.heap.size + 1) m li ls hmS (by omega) (by omega) _ HSC3.o).mono ?_
     rintro e w4 ⟨rfl, k4, li4, ls4, hs4, hg4, hm4, hk4, hls4, hli4, hskip4⟩
     have HCO4 := Za (HCO3.o.skip hg4)
     have HAT4 : xQ (T6 R (S.data.toList.drop k4) li4 (k4 - ls4 + 1) (acc ++ [⟨kd, t, li, k - ls + 1⟩])) := by
      refine Fr hat.o HNE.o HRD.o zhz ?_
      rw [zhy.o, List.length_drop, List.length_drop, Yp]
      rw [show k - ls + 1 + (S.size - k - (S.size - m)) = m - ls + 1 from by omega]
      exact hskip4
     have HS4 := Za hs4
     clear hg4 hs4 hskip4
     go_wp2
     refine ⟨⟨k4, li4, ls4, acc ++ [⟨kd, t, li, k - ls + 1⟩], HCO4, HS4, hk4, hls4, hli4, by simp; omega, HAT4⟩, ?_⟩
     have e1 := hat1.o
     have e2 := HS4.o.at
     rw [e1, e2]
     omega
  ·have hnil : S.data.toList.drop k = [] := List.drop_eq_nil_of_le (by rw [Yp]; omega)
   have hend := hat.o
   rw [hnil] at hend
   have HEND := Za (Rb hend)
   clear hnil hend
   go_wp2_with fail
   refine (Gx S sb (w.heap.size + 1) k li ls (by omega) hls _ hsc.o).mono ?_
   rintro e wa ⟨rfl, hga⟩
   have hcoa := Za (hco.o.none hga)
   clear hga c1 hco hsc
   unfold tokA
   go_wp2_with (at_builtin; refine wpList_append_own _ rfl (.tmp 43) (.tmp 45) 97 rfl (sb + 1) 108 i0 _ 4 40 underlying97 hi hz0 hz1 hz2 rfl (by decide) _ _ _ rfl (hcoa.o.ow.alloc _) ⟨_, 0, none⟩ 1 1 (Tok.cells ⟨0, [], li, k - ls + 1⟩) rfl rfl (K9 _ ⟨0, [], li, k - ls + 1⟩ 108) (K1 _) (by unfold maxLen; omega) (by omega) (by have := hcoa.o.sz; simp; omega) ?_)
   intro v' w3 zho zhn _
   obtain ⟨hco3, hlow⟩ := hcoa.o.app (t := ⟨0, [], li, k - ls + 1⟩) zho zhn
   have hdg := Za hco3.dg
   have hbl := Za hco3.bl
   have hsbl := hco3.sbl
   obtain ⟨g, cap', rfl⟩ : ∃ g cap', v' = .slice (some ⟨g, 0, none⟩) (acc.length + 1) cap' := by
    rcases zho.2 with ⟨_, h0⟩ | ⟨g, cap', cur, h1, _⟩
    ·omega
    ·exact ⟨g, cap', h1⟩
   have hgb := (Qt zho g rfl).1
   have how := Za hco3.ow
   have g0 := hco3.dg.c 0 (by omega)
   have g1 := hco3.dg.c 1 (by omega)
   have g2 := hco3.dg.c 2 (by omega)
   have g3 := hco3.dg.c 3 (by omega)
   simp only [List.getD_cons_zero, List.getD_cons_succ] at g0 g1 g2 g3
   have z0 := hco3.dg.fz 0
   have z1 := hco3.dg.fz 1
   have z2 := hco3.dg.fz 2
   have z3 := hco3.dg.fz 3
   clear zho zhn hco3 hlow hcoa
   go_wp2
   refine bodyPost_ret (results_tmp_cell rfl _ rfl (hdg.o.set _ _ _) underlying30 Mi) rfl ?_
   rw [HEND.o]
   refine ⟨Q3 hbl.o _ _ _ _, g, cap', ?_, ?_⟩
   ·simp [diagA]
   ·have ho := F0 how.o (show w.heap.size ≤ sb + 1 by omega)
    rw [List.length_append] at ho ⊢
    have hne : ∀ o, (Value.slice (some ⟨g, 0, none⟩) (acc.length + 1) cap').ownBlock ≠ some (⟨w.heap.size, o, none⟩ : Addr).block := fun o e => by
     simp [Value.ownBlock] at e
     omega
    exact ownsRow_setCell_other (ownsRow_setCell_other (ownsRow_setCell_other (ownsRow_setCell_other ho (hne 0) _) (hne 1) _) (hne 2) _) (hne 3) _
theorem lex_c (S : ByteArray) (hS : S.size ≤ 140737488351232) (w : World) (hw : Words w) : Calls prog 53 #[.string S] w (LexPost w (Wb S.data.toList)) := by
 by_cases h : S.size ≤ 65536
 ·exact zef S h w hw
 ·rw [Wb, if_pos (by rw [Yp]; omega)]
  exact O4 S (by omega) hS w
end Go.Proofs.YtbnjllkkhhkkaaaGreatDoor.Lx
namespace Go.Proofs.YtbnjllkkhhkkaaaGreatDoor
open Tryz
open Go.RowKit
def Tx {α : Type} (w : World) (z : Value) (rep : Nat → World → Value → α → Prop) (R : α ⊕ (Int × Nat × Nat)) (e : Ending) (w' : World) : Prop :=
 Below w.heap.size w w' ∧ match R with
 | .inl x => ∃ v, e = .returned (.tuple #[v, Vx 0 0 0]) ∧ rep w.heap.size w' v x
 | .inr (er, li, co) => e = .returned (.tuple #[z, Vx li co er])
theorem Kq {w : World} {B e g cap : Nat} {ts : List Tok} (h : w.ownsRow B e 4 (.slice (some ⟨g, 0, none⟩) ts.length cap) ts.length (Lx.tokCells ts)) : Q7 w g ts := fun i hi => by
 have hc : ∀ j, j < 4 → w.cell? ⟨g, i * 4 + j, none⟩ = (Lx.Tok.cells (Zg ts i))[j]? := fun j hj => by
  rw [h.cellAt (i * 4 + j) (by omega)]
  have hf : ∀ (ts : List Tok) (i : Nat) (hi : i < ts.length), (Lx.tokCells ts)[i * 4 + j]? = (Lx.Tok.cells ts[i])[j]? := by
   intro ts
   induction ts with
   | nil => intro i hi; cases hi
   | cons t r ih =>
    intro i hi
    cases i with
    | zero =>
     rw [Lx.tokCells, List.flatMap_cons, List.getElem?_append_left (by simp [Lx.Tok.cells]; omega)]
     simp
    | succ i =>
     rw [Lx.tokCells, List.flatMap_cons, List.getElem?_append_right (by simp [Lx.Tok.cells]; omega)]
     have := ih i (by simpa using hi)
     rw [Lx.tokCells] at this
     simp only [List.getElem_cons_succ]
     rw [← this]
     congr 1
     simp [Lx.Tok.cells]
     omega
  rw [hf ts i hi]
  unfold Zg
  rw [List.getD_eq_getElem?_getD, List.getElem?_eq_getElem hi]
  rfl
 exact ⟨hc 0 (by omega), hc 1 (by omega), hc 2 (by omega), hc 3 (by omega)⟩
theorem zay {w : World} {pb tb cap a d b : Nat} {ts : List Tok} (h : Ps w pb tb cap ts a d) (h1 : b ≠ pb) (h2 : b ≠ tb) (x0 x1 x2 x3 : Value) : Ps ((((w.setCell ⟨b, 0, none⟩ x0).setCell ⟨b, 1, none⟩ x1).setCell ⟨b, 2, none⟩ x2).setCell ⟨b, 3, none⟩ x3) pb tb cap ts a d :=
 ⟨(Yn (fun e => h1 e.symm) _ _ _ _).trans h.blk, h.tlt, Wj h.toks (Yn (fun e => h2 e.symm) _ _ _ _), h.lt⟩
theorem Zt.drew {lo : Nat} {w : World} {v : Value} {D : Ty} (h : Zt lo w v D) : Zt lo w.drew v D := h.keep (xR) fun _ _ _ => rfl
def Uj {α : Type} (r : Pr α) : α ⊕ (Int × Nat × Nat) := match r with
 | .inl (t, _) => .inl t
 | .inr e => .inr e
theorem zek {l : List UInt8} {ts : List Tok} (h : Wb l = .inl ts) : T9 l = Uj (Uv ts (Yk ts ts.length 101 0 0)) := by
 unfold T9 Uj
 rw [h]
 simp only
 cases Uv ts (Yk ts ts.length 101 0 0) <;> rfl
theorem Up {fn : Func} {p q : Tmp} {ty ty' : TypeId} (h : fn.results = #[.cell p ty, .cell q ty']) (tmps : Array Value) {P : Program} {w : World} {g g' : Nat} {t t' : TypeId} {cs cs' : Array Value} {fs fs' : Array Field}
  (hp : tmps.getD p undef = .pointer (some ⟨g, 0, none⟩)) (hg : w.heap[g]? = some (.cells cs t)) (hu : P.underlying ty = some (.struct fs)) (hi : (P.info? ty).map (·.size) = some cs.size)
  (hp' : tmps.getD q undef = .pointer (some ⟨g', 0, none⟩)) (hg' : w.heap[g']? = some (.cells cs' t')) (hu' : P.underlying ty' = some (.struct fs')) (hi' : (P.info? ty').map (·.size) = some cs'.size) :
  (results fn tmps).run P w = .ok (.tuple #[.agg cs, .agg cs']) w := by
 have e1 : tmps[p]?.getD undef = .pointer (some ⟨g, 0, none⟩) := by simpa using hp
 have e2 : tmps[q]?.getD undef = .pointer (some ⟨g', 0, none⟩) := by simpa using hp'
 simp [results, h, e1, e2, asAddr, run_loadVar_row w g t ty cs (0, 0) _ hg hu rfl hi, run_loadVar_row w g' t' ty' cs' (0, 0) _ hg' hu' rfl hi']
theorem N2 {fn : Func} {p q : Tmp} {ty ty' : TypeId} (h : fn.results = #[.cell p ty, .cell q ty']) (tmps : Array Value) {P : Program} {w : World} {g g' : Nat} {t t' : TypeId} {cs cs' : Array Value} {fs fs' : Array Field}
  (hp : tmps.getD p undef = .pointer (some ⟨g, 0, none⟩)) (hg : w.heap[g]? = some (.cells cs t)) (hu : P.underlying ty = some (.struct fs)) (hi : (P.info? ty).map (·.size) = some cs.size)
  (hp' : tmps.getD q undef = .pointer (some ⟨g', 0, none⟩)) (hg' : w.heap[g']? = some (.cells cs' t')) (hu' : P.underlying ty' = some (.struct fs')) (hi' : (P.info? ty').map (·.size) = some cs'.size) :
  (results fn tmps).run P w.drew = .ok (.tuple #[.agg cs, .agg cs']) w.drew := Up h tmps hp (by rw [T4]; exact hg) hu hi hp' (by rw [T4]; exact hg') hu' hi'
theorem zdh (S : ByteArray) (hS : S.size ≤ 140737488351232) (w : World) (hw : Lx.Words w) :
  Calls prog 29 #[.string S, .func (.func 30) #[] #[]] w (Tx w zTy Zt (T9 S.data.toList)) := by
 have hmf : ∀ (fn : Fn) (first cap : Array Value) (w : World), (Instr.makeFunc fn first cap).run prog w = .ok (.func fn first cap) w := fun _ _ _ _ => rfl
 have HX := Za (fun wx (hb : Below w.heap.size w wx) => Lx.lex_c S hS wx (hw.below hb))
 have hen := Jq
 clear hw
 go_enter_defers func29, ntmps29
 go_wp2_with fail
 refine (HX.o _ (Zn (Zl _ _) (Zl _ _))).mono ?_
 intro e w2 zhm
 obtain ⟨hb2, hm⟩ := zhm
 have HB2 := Za (Zn (Zn (Zl _ _) (Zl _ _)) hb2)
 have HA := Za ((hb2.block w.heap.size (by rw [xS, xS]; omega)).trans ((xA (by rw [xS]; omega)).trans (xL w _)))
 have HD := Za ((hb2.block (w.heap.size + 1) (by rw [xS, xS]; omega)).trans (Wn w _ _))
 clear hb2
 obtain ⟨⟨a0, a1, a2, a3⟩, ⟨z0, z1, z2, z3⟩, hla⟩ := Zr HA.o
 obtain ⟨⟨d0, d1, d2, d3⟩, ⟨g0, g1, g2, g3⟩, hld⟩ := Zr HD.o
 cases hl : Wb S.data.toList with
 | inr p =>
  obtain ⟨x, li, co⟩ := p
  rw [hl] at hm
  simp only at hm
  subst hm
  have hx0 : (x != 0) = true := by simpa using K2 hl
  have HE : xQ (T9 S.data.toList = .inr (x, li, co)) := by show _ = _; unfold T9; rw [hl]
  clear hl
  unfold Lx.diagA
  go_wp2_with fail
  go_region
  all_goals
   go_wp2_with fail
   have hh1 := Yn (w := w2) (b := w.heap.size + 1) (i := w.heap.size) (by omega) (.int .i64 0) (.int .i64 li) (.int .i64 co) (.int .i64 x)
   have hga := (set4 (hh1.trans HA.o) (.int .i64 0) (.string ⟨#[]⟩) (.slice none 0 0) (.slice none 0 0))
   have hgd := set4 ((Yn (b := w.heap.size) (i := w.heap.size + 1) (by omega) (.int .i64 0) (.string ⟨#[]⟩) (.slice none 0 0) (.slice none 0 0)).trans (set4 HD.o (.int .i64 0) (.int .i64 li) (.int .i64 co) (.int .i64 x))) (.int .i64 0) (.int .i64 li) (.int .i64 co) (.int .i64 x)
   refine ⟨.tuple #[zTy, Vx li co x], N2 rfl _ rfl ((Yn (b := w.heap.size + 1) (i := w.heap.size) (by omega) (.int .i64 0) (.int .i64 li) (.int .i64 co) (.int .i64 x)).trans hga) underlying36 Pf rfl hgd underlying30 (by kernel_rfl), ?_⟩
   rw [HE.o]
   exact ⟨(Xd (Xd (Xd HB2.o (by omega) _ _ _ _) (xR) _ _ _ _) (by omega) _ _ _ _).drew, rfl⟩
 | inl ts =>
  rw [hl] at hm
  obtain ⟨g, cap, rfl, hown⟩ := hm
  have OK := Za (Lk hl)
  have HE := Za (zek hl)
  have HTc := Za (Kq hown)
  have hgl : g < w2.heap.size ∧ w.heap.size + 2 ≤ g := by
   have := hown.lt g rfl
   rw [xS, xS] at this
   omega
  obtain ⟨hgl1, hgl2⟩ := hgl
  obtain ⟨Wd, hWd⟩ := xE ((((w2.setCell ⟨w.heap.size + 1, 0, none⟩ (.int .i64 0)).setCell ⟨w.heap.size + 1, 1, none⟩ (.int .i64 0)).setCell ⟨w.heap.size + 1, 2, none⟩ (.int .i64 0)).setCell ⟨w.heap.size + 1, 3, none⟩ (.int .i64 0))
  have hWs : Wd.heap.size = w2.heap.size := by rw [hWd, Vj]
  have HAd : xQ (Wd.heap[w.heap.size]? = some Yl) := by rw [hWd]; exact (Yn (by omega) _ _ _ _).trans HA.o
  have HDd : xQ (Wd.heap[w.heap.size + 1]? = some (.cells #[.int .i64 0, .int .i64 0, .int .i64 0, .int .i64 0] 30)) := by rw [hWd]; exact set4 HD.o _ _ _ _
  have HTd : xQ (Q7 Wd g ts) := Wj HTc.o (by rw [hWd]; exact Yn (by omega) _ _ _ _)
  have HBd : xQ (Below w.heap.size w Wd) := by rw [hWd]; exact Xd HB2.o (by omega) _ _ _ _
  clear hl hown
  unfold Lx.diagA
  go_wp2_with fail
  rw [← hWd, ← hWs]
  have P0 : Ps (Wd.alloc (.cells #[.slice (some ⟨g, 0, none⟩) ts.length cap, .int .i64 0, .int .i64 0] 103)) Wd.heap.size g cap ts 0 0 :=
   ⟨xL _ _, by omega, Wj HTd.o (xA (by omega)), OK.o.pos⟩
  have HP0 := Za P0
  clear P0
  refine (Hx Wd.heap.size g cap ts OK.o 101 0 0 _ rfl (by omega) HP0.o).mono ?_
  intro e w3 zhm
  have HPo := Za zhm
  have hst0 := zhm.1
  have HA3 := Za ((hst0.below.block w.heap.size (by omega)).trans ((xA (by omega)).trans HAd.o))
  have HD3 := Za ((hst0.below.block (w.heap.size + 1) (by omega)).trans ((xA (by omega)).trans HDd.o))
  have HB3 : xQ (Below w.heap.size w w3) := (HBd.o.alloc (by omega) _).trans (hst0.below.mono (by omega))
  have HS3 := Za hst0.size
  clear zhm hst0 a0 a1 a2 a3 z0 z1 z2 z3 d0 d1 d2 d3 g0 g1 g2 g3
  rcases Zy HPo.o with ⟨er, li, co, hr, rfl, hst⟩ | ⟨D, b, v, hr, rfl, hst, hps, hv⟩
  ·have HE2 : xQ (T9 S.data.toList = .inr (er, li, co)) := by rw [HE.o, hr]; exact rfl
   clear hr hst
   go_wp2_with fail
   refine leaves_cons (f := 63) (args := #[.pointer (some ⟨w.heap.size, 0, none⟩), .pointer (some ⟨w.heap.size + 1, 0, none⟩)]) (by simp) (by simp [go_sem]) ?_
   refine (Rg w.heap.size (w.heap.size + 1) li co er [] w3 _ _ _ _ _ _ _ _ HA3.o HD3.o (by omega)).mono ?_
   rintro e u' w4 ⟨rfl, rfl, ⟨h1, h2⟩, h3⟩
   show ∃ v, _
   refine ⟨_, Up rfl _ rfl h1 underlying36 Pf rfl h2 underlying30 (by kernel_rfl), ?_⟩
   rw [HE2.o]
   exact ⟨HB3.o.trans (h3.o _ (xR) (by omega)), rfl⟩
  ·obtain ⟨k1, nm1, na1, nl1, nc1, ka1, kl1, kc1, rfl⟩ := hv.cells
   have HV := Za hv
   have HPs := Za hps
   have HK := Za hr
   obtain ⟨⟨a0, a1, a2, a3⟩, ⟨z0, z1, z2, z3⟩, hla3⟩ := Zr HA3.o
   obtain ⟨⟨d0, d1, d2, d3⟩, ⟨g0, g1, g2, g3⟩, hld3⟩ := Zr HD3.o
   rw [hWs] at HPs
   have HPe := Za (zay HPs.o (b := w.heap.size) (by omega) (by omega) (.int .i64 k1) (.string nm1) (.slice na1 nl1 nc1) (.slice ka1 kl1 kc1))
   have HAe := Za (set4 HA3.o (.int .i64 k1) (.string nm1) (.slice na1 nl1 nc1) (.slice ka1 kl1 kc1))
   have HDe := Za ((Yn (b := w.heap.size) (i := w.heap.size + 1) (by omega) (.int .i64 k1) (.string nm1) (.slice na1 nl1 nc1) (.slice ka1 kl1 kc1)).trans HD3.o)
   have HBe := Za (Xd HB3.o (xR) (.int .i64 k1) (.string nm1) (.slice na1 nl1 nc1) (.slice ka1 kl1 kc1))
   have HVe := Za (HV.o.set4 (b := w.heap.size) (by rw [xS]; omega) (.int .i64 k1) (.string nm1) (.slice na1 nl1 nc1) (.slice ka1 kl1 kc1))
   have HSe := Za (Vj w3 w.heap.size (.int .i64 k1) (.string nm1) (.slice na1 nl1 nc1) (.slice ka1 kl1 kc1))
   clear hr hst hps hv
   go_wp2_with fail
   obtain ⟨We, hWe⟩ := xE ((((w3.setCell ⟨w.heap.size, 0, none⟩ (.int .i64 k1)).setCell ⟨w.heap.size, 1, none⟩ (.string nm1)).setCell ⟨w.heap.size, 2, none⟩ (.slice na1 nl1 nc1)).setCell ⟨w.heap.size, 3, none⟩ (.slice ka1 kl1 kc1))
   rw [← hWe] at HPe HAe HDe HBe HVe HSe ⊢
   clear hWe a0 a1 a2 a3 z0 z1 z2 z3 d0 d1 d2 d3 g0 g1 g2 g3
   refine (H4 w2.heap.size g cap b 0 ts _ HPe.o).mono ?_
   intro e w4 zhm
   have hst0 := zhm.1
   have hpe := HPe.o.ltp
   have HA4 := Za ((hst0.below.block w.heap.size (by omega)).trans HAe.o)
   have HD4 := Za ((hst0.below.block (w.heap.size + 1) (by omega)).trans HDe.o)
   have HB4 : xQ (Below w.heap.size w w4) := HBe.o.trans (hst0.below.mono (by omega))
   have HV4 : xQ (Zt (w2.heap.size + 1) w4 (.agg #[.int .i64 k1, .string nm1, .slice na1 nl1 nc1, .slice ka1 kl1 kc1]) D) := by
    have := HVe.o
    rw [xS, hWs] at this
    exact this.stay hst0 (by omega)
   have HPo4 := Za zhm
   clear zhm hst0
   rcases Zy HPo4.o with ⟨er, li, co, hr, rfl, hst⟩ | ⟨u, b', v, hr, rfl, hst, hps, hv⟩
   ·have HE2 : xQ (T9 S.data.toList = .inr (er, li, co)) := by
     rw [HE.o, HK.o]
     show Uj (if (Zg ts b).kind == 0 then .inl (D, b) else Ys ts 7 b) = _
     by_cases h0 : ((Zg ts b).kind == 0) = true
     ·rw [if_pos h0] at hr; cases hr
     ·rw [if_neg h0] at hr ⊢
      injection hr with hr
      exact congrArg Sum.inr hr
    clear hr hst
    go_wp2_with fail
    refine leaves_cons (f := 63) (args := #[.pointer (some ⟨w.heap.size, 0, none⟩), .pointer (some ⟨w.heap.size + 1, 0, none⟩)]) (by simp) (by simp [go_sem]) ?_
    refine (Rg w.heap.size (w.heap.size + 1) li co er [] w4 _ _ _ _ _ _ _ _ HA4.o HD4.o (by omega)).mono ?_
    rintro e u' w5 ⟨rfl, rfl, ⟨h1, h2⟩, h3⟩
    show ∃ v, _
    refine ⟨_, Up rfl _ rfl h1 underlying36 Pf rfl h2 underlying30 (by kernel_rfl), ?_⟩
    rw [HE2.o]
    exact ⟨HB4.o.trans (h3.o _ (xR) (by omega)), rfl⟩
   ·have HE2 : xQ (T9 S.data.toList = .inl D) := by
     rw [HE.o, HK.o]
     show Uj (if (Zg ts b).kind == 0 then .inl (D, b) else Ys ts 7 b) = _
     by_cases h0 : ((Zg ts b).kind == 0) = true
     ·rw [if_pos h0]; exact rfl
     ·rw [if_neg h0] at hr; cases hr
    obtain ⟨⟨a0, a1, a2, a3⟩, ⟨z0, z1, z2, z3⟩, hla4⟩ := Zr HA4.o
    obtain ⟨⟨d0, d1, d2, d3⟩, ⟨g0, g1, g2, g3⟩, hld4⟩ := Zr HD4.o
    clear hr hst hps hv
    go_wp2_with fail
    go_region
    all_goals
     go_wp2_with fail
     have hga := (Yn (b := w.heap.size + 1) (i := w.heap.size) (by omega) (.int .i64 0) (.int .i64 0) (.int .i64 0) (.int .i64 0)).trans (set4 HA4.o (.int .i64 k1) (.string nm1) (.slice na1 nl1 nc1) (.slice ka1 kl1 kc1))
     have hgd := set4 ((Yn (b := w.heap.size) (i := w.heap.size + 1) (by omega) (.int .i64 k1) (.string nm1) (.slice na1 nl1 nc1) (.slice ka1 kl1 kc1)).trans HD4.o) (.int .i64 0) (.int .i64 0) (.int .i64 0) (.int .i64 0)
     have hT := ((HV4.o.set4 (b := w.heap.size) (by omega) (.int .i64 k1) (.string nm1) (.slice na1 nl1 nc1) (.slice ka1 kl1 kc1)).set4 (b := w.heap.size + 1) (by omega) (.int .i64 0) (.int .i64 0) (.int .i64 0) (.int .i64 0)).lower (lo' := w.heap.size) (by omega)
     have hBf := Xd (Xd HB4.o (xR) (.int .i64 k1) (.string nm1) (.slice na1 nl1 nc1) (.slice ka1 kl1 kc1)) (show w.heap.size ≤ w.heap.size + 1 by omega) (.int .i64 0) (.int .i64 0) (.int .i64 0) (.int .i64 0)
     generalize ((((((((w4.setCell ⟨w.heap.size, 0, none⟩ (.int .i64 k1)).setCell ⟨w.heap.size, 1, none⟩ (.string nm1)).setCell ⟨w.heap.size, 2, none⟩ (.slice na1 nl1 nc1)).setCell ⟨w.heap.size, 3, none⟩ (.slice ka1 kl1 kc1)).setCell ⟨w.heap.size + 1, 0, none⟩ (.int .i64 0)).setCell ⟨w.heap.size + 1, 1, none⟩ (.int .i64 0)).setCell ⟨w.heap.size + 1, 2, none⟩ (.int .i64 0)).setCell ⟨w.heap.size + 1, 3, none⟩ (.int .i64 0)) = Wf at hga hgd hT hBf ⊢
     refine leaves_cons (f := 63) (args := #[.pointer (some ⟨w.heap.size, 0, none⟩), .pointer (some ⟨w.heap.size + 1, 0, none⟩)]) (by simp) (by simp [go_sem]) ?_
     refine (Ct ⟨w.heap.size, 0, none⟩ ⟨w.heap.size + 1, 0, none⟩ _).mono ?_
     rintro e u' w5 ⟨rfl, rfl, rfl⟩
     show ∃ v, _
     refine ⟨_, N2 rfl _ rfl hga underlying36 Pf rfl hgd underlying30 (by kernel_rfl), ?_⟩
     rw [HE2.o]
     exact ⟨hBf.drew, _, rfl, hT.drew⟩
theorem zaj (S : ByteArray) (hS : S.size ≤ 140737488351232) (w : World) (hw : Lx.Words w) :
  Calls prog 12 #[.string S] w (Tx w zTy Zt (T9 S.data.toList)) := by
 have HW := Za (zdh S hS _ (hw.below (Zn (Zl w Yl) (Zl _ (.cells #[.int .i64 0, .int .i64 0, .int .i64 0, .int .i64 0] 30)))))
 obtain ⟨R, hR⟩ := xE (T9 S.data.toList)
 rw [← hR] at HW ⊢
 clear hw hR
 go_enter func12, ntmps12
 go_wp2_with fail
 refine HW.o.mono ?_
 intro e w2 zhm
 obtain ⟨hb2, hm⟩ := zhm
 have HB2 := Za (Zn (Zn (Zl _ _) (Zl _ _)) hb2)
 have HA := Za ((hb2.block w.heap.size (by rw [xS, xS]; omega)).trans ((xA (by rw [xS]; omega)).trans (xL w _)))
 have HD := Za ((hb2.block (w.heap.size + 1) (by rw [xS, xS]; omega)).trans (Wn w _ _))
 clear hb2
 obtain ⟨⟨a0, a1, a2, a3⟩, ⟨z0, z1, z2, z3⟩, hla⟩ := Zr HA.o
 obtain ⟨⟨d0, d1, d2, d3⟩, ⟨g0, g1, g2, g3⟩, hld⟩ := Zr HD.o
 rw [xS, xS] at hm
 rcases R with D | ⟨er, li, co⟩
 ·obtain ⟨v, rfl, hv⟩ := hm
  obtain ⟨k1, nm1, na1, nl1, nc1, ka1, kl1, kc1, rfl⟩ := hv.cells
  have HV := Za hv
  clear hv
  go_wp2_with fail
  have hga := (Yn (b := w.heap.size + 1) (i := w.heap.size) (by omega) (.int .i64 0) (.int .i64 0) (.int .i64 0) (.int .i64 0)).trans (set4 HA.o (.int .i64 k1) (.string nm1) (.slice na1 nl1 nc1) (.slice ka1 kl1 kc1))
  have hgd := set4 ((Yn (b := w.heap.size) (i := w.heap.size + 1) (by omega) (.int .i64 k1) (.string nm1) (.slice na1 nl1 nc1) (.slice ka1 kl1 kc1)).trans HD.o) (.int .i64 0) (.int .i64 0) (.int .i64 0) (.int .i64 0)
  refine bodyPost_ret (Up rfl _ rfl hga underlying36 Pf rfl hgd underlying30 (by kernel_rfl)) rfl ⟨Xd (Xd HB2.o (xR) _ _ _ _) (by omega) _ _ _ _, _, rfl, ?_⟩
  exact ((HV.o.set4 (b := w.heap.size) (by omega) _ _ _ _).set4 (b := w.heap.size + 1) (by omega) _ _ _ _).lower (by omega)
 ·subst hm
  go_wp2_with fail
  have hga := (Yn (b := w.heap.size + 1) (i := w.heap.size) (by omega) (.int .i64 0) (.int .i64 li) (.int .i64 co) (.int .i64 er)).trans (set4 HA.o (.int .i64 0) (.string ⟨#[]⟩) (.slice none 0 0) (.slice none 0 0))
  have hgd := set4 ((Yn (b := w.heap.size) (i := w.heap.size + 1) (by omega) (.int .i64 0) (.string ⟨#[]⟩) (.slice none 0 0) (.slice none 0 0)).trans HD.o) (.int .i64 0) (.int .i64 li) (.int .i64 co) (.int .i64 er)
  refine bodyPost_ret (Up rfl _ rfl hga underlying36 Pf rfl hgd underlying30 (by kernel_rfl)) rfl ⟨Xd (Xd HB2.o (xR) _ _ _ _) (by omega) _ _ _ _, rfl⟩
theorem zal (p q : Addr) (w : World) :
  CallsD prog 54 #[.pointer (some p), .pointer (some q)] .returning w fun e u' w' => e = .returned (.tuple #[]) ∧ u' = .returning ∧ w' = w := by
 have hn := He
 refine callsD_of_wpS func54 rfl fun c₀ cs hu => ?_
 apply wpS_seq
 apply wpS_region
 simp [wpOpsS, go_sem, recoverD, hu, ntmps54, Exit.thenS]
 refine wpS_of_wp ?_
 simp only [Array.replicate, List.replicate, List.setIfInBounds_toArray, List.set_cons_zero, List.set_cons_succ, List.append_toArray, List.cons_append, List.nil_append]
 go_wp2
 cases c₀
 simp_all [bodyPostS, results, results54]
theorem Gw (ab db : Nat) (li co x : Int) (older : List PanicEntry) (w : World) (y : NV) (x0 x1 x2 x3 : Value) (ha : w.heap[ab]? = some y.obj) (hd : w.heap[db]? = some (.cells #[x0, x1, x2, x3] 30)) (hab : ab ≠ db) :
  CallsD prog 54 #[.pointer (some ⟨ab, 0, none⟩), .pointer (some ⟨db, 0, none⟩)] (.panicking ({ v := .iface 30 (Vx li co x), recovered := false } :: older)) w fun e u' w' => e = .returned (.tuple #[]) ∧ u' = .panicking ({ v := .iface 30 (Vx li co x), recovered := true } :: older) ∧
   (w'.heap[ab]? = some Ze.obj ∧ w'.heap[db]? = some (.cells #[.int .i64 0, .int .i64 li, .int .i64 co, .int .i64 x] 30)) ∧ xQ (∀ B, B ≤ ab → B ≤ db → Below B w w') := by
 have hn := Jv
 have hta := Ht
 obtain ⟨⟨a0, a1, a2, a3, a4, a5, a6, a7⟩, ⟨z0, z1, z2, z3, z4, z5, z6, z7⟩, hla⟩ := Zh ha
 obtain ⟨⟨d0, d1, d2, d3⟩, ⟨g0, g1, g2, g3⟩, hld⟩ := Zr hd
 have HA := Za ha
 have HD := Za hd
 clear ha hd
 have hab' : ¬ db = ab := fun e => hab e.symm
 refine callsD_of_wpS func54 rfl fun c₀ cs hu => ?_
 apply wpS_seq
 apply wpS_region
 simp [wpOpsS, go_sem, recoverD, hu, ntmps54, Exit.thenS]
 refine wpS_of_wp ?_
 simp only [Array.replicate, List.replicate, List.setIfInBounds_toArray, List.set_cons_zero, List.set_cons_succ, List.append_toArray, List.cons_append, List.nil_append]
 go_wp2
 go_region
 all_goals
  go_wp2
  refine ⟨rfl, _, rfl, .tuple #[], results_none rfl _ _ _, rfl, rfl, ⟨?_, ?_⟩, fun B h1 h2 => ?_⟩
  ·rw [T4]
   refine (xA (by simp only [Zw]; exact hla)).trans ?_
   exact (Yn hab _ _ _ _).trans (Yj (x := Ze) HA.o)
  ·rw [T4]
   refine (xA (by simp only [Zw]; exact hld)).trans ?_
   exact set4 ((Xq (x := Ze) hab').trans HD.o) _ _ _ _
  ·exact ((Xd (Ni (x := Ze) (Below.refl _ w) h1) h2 _ _ _ _).alloc (by simp only [Zw]; omega) _).drew
end Go.Proofs.YtbnjllkkhhkkaaaGreatDoor
