/- Part. -/
import Derived.Test.YtfoejkhfdiodhaaGreatDoorPart13
set_option maxRecDepth 100000
set_option maxHeartbeats 4000000
namespace Go.Proofs.YtfoejkhfdiodhaaGreatDoor.Lx
open Go.Proofs.Tryz
open Go.RowKit
def En (S : ByteArray) (sb mb k : Nat) (li ls : Int) (tb : Nat) (tl tc : Int) (w : World) (r : Rd) (e : Ending) (w' : World) : Prop :=
 match r with
 | .inl x => e = .returned (.int .i64 x) /\ x ≠ 0 /\ (∃ kd tx, Xr w' tb kd tx tl tc) /\ Xv w w' sb tb
 | .inr (kind, text, rest) => e = .returned (.int .i64 0) /\ ∃ m : Nat, k < m /\ m <= S.size /\ rest = S.data.toList.drop m /\ Xa w' sb S m li ls mb /\ Xr w' tb kind ⟨text.toArray⟩ tl tc /\ Xv w w' sb tb
theorem D6 {S : ByteArray} {k : Nat} (hk : k < S.size) : V4 (S.data.toList.drop k) =
  if V2 S[k] then
   if 32 < ((S.data.toList.drop k).takeWhile Y8).length then .bad 2
   else .tok (if Tl.contains ((S.data.toList.drop k).takeWhile Y8) then 2 else 1) ((S.data.toList.drop k).takeWhile Y8) (S.data.toList.drop (Y5 S k Y8))
  else if Y9 S[k] then
   match Pi ((S.data.toList.drop k).takeWhile Y9) with
   | none => .bad 3
   | some _ => .tok 3 ((S.data.toList.drop k).takeWhile Y9) (S.data.toList.drop (Y5 S k Y9))
  else if S[k] = 34 then
   match Ur S (k + 1) [] with
   | none => .bad 4
   | some (said, rest) => if 256 < said.length then .bad 2 else .tok 4 said rest
  else if V5 (S.data.toList.drop k) = 0 then .bad 5
  else .tok 5 ((S.data.toList.drop k).take (V5 (S.data.toList.drop k))) (S.data.toList.drop (k + V5 (S.data.toList.drop k))) := by
 rw [O1, O1, <- List.drop_drop]
 unfold Ur
 have e := Va S k hk
 obtain ⟨l, hl⟩ := xE (S.data.toList.drop k)
 rw [<- hl] at e ⊢
 conv => lhs; rw [e]
 rw [V4, <- e]
 rfl
theorem Oe {S : ByteArray} {k : Nat} {p : UInt8 -> Bool} (hk : k < S.size) (h : p S[k] = true) : k < Y5 S k p := by
 rw [F0 hk h]
 unfold Y5
 omega
theorem yI (l : List UInt8) : (ByteArray.mk l.toArray).size = l.length := by simp [ByteArray.size]
theorem dG (S : ByteArray) (hS : S.size <= 65536) (sb mb k li ls : Nat) (hk : k < S.size) (tb : Nat) (kd : Int) (tx : ByteArray) (tl tc : Int) (Z3 : sb ≠ tb) (w : World) (Yv : Xa w sb S k li ls mb) (Vm : Xr w tb kd tx tl tc)
  (hw : Words w) (hgs : 4 ≠ sb) (hgt : 4 ≠ tb) (hl : V2 S[k] = true) :
  Calls prog 62 #[.pointer (some ⟨sb, 0, none⟩), .pointer (some ⟨tb, 0, none⟩)] w (En S sb mb k li ls tb tl tc w (V4 (S.data.toList.drop k))) := by
 rw [D6 hk, hl, if_pos rfl]
 have Zb := F1 S[k]
 rw [hl] at Zb
 have Zu := Za Zb
 have Yu := dU S hS sb mb k li ls (by omega) 
 have Ra := Oe (p := Y8) hk (by simp [Y8, hl])
 have U8 := G2 S k Y8 (by omega)
 have hlen : ((S.data.toList.drop k).takeWhile Y8).length <= 65536 := by
  have : k + ((S.data.toList.drop k).takeWhile Y8).length = Y5 S k Y8 := rfl;omega
 obtain ⟨r, hr⟩ := xE (Y5 S k Y8)
 obtain ⟨t, ht⟩ := xE ((S.data.toList.drop k).takeWhile Y8)
 rw [<- hr] at Yu Ra U8 ⊢
 rw [<- ht] at Yu hlen ⊢
 obtain ⟨T, hT⟩ : ∃ T : ByteArray, T = ⟨t.toArray⟩ := ⟨_, rfl⟩
 rw [<- hT] at Yu
 have hTs : T.size = t.length := by rw [hT, yI]
 have hTd : T.data.toList = t := by rw [hT]
 have Jw := Za Yu
 have HS := Za Yv
 have HT := Za Vm
 have HW := Za hw
 have HTT := Za hT
 have c0 := Yv.c0
 have c1 := Yv.c1
 have hkI : (k : Int) < (S.size : Int) := by omega
 have hw2 : T.size <= 32 ∨ 32 < T.size := by omega
 have hTs2 : T.size <= 65536 := by omega
 obtain ⟨R, hR⟩ := xE ((if 32 < t.length then Rd.bad 2 else Rd.tok (if Tl.contains t = true then 2 else 1) t (List.drop r S.data.toList)))
 rw [<- hR]
 have Ka := Za hR
 clear hR
 have HTS := Za hTs
 have HTD := Za hTd
 clear Zb Yu hr ht Yv Vm hw hl hT hTs hTd hlen
 go_enter func62, ntmps62
 go_wp2
 go_quiet (fail)
 go_wp2_with fail
 refine (Zu.o _).mono ?_
 rintro e w' ⟨rfl, rfl⟩
 go_wp2_with fail
 refine (Jw.o _ (by exact HS.o)).mono ?_
 rintro e w1 ⟨rfl, Xx, Vj⟩
 have hu1 := Za ((Xv.refl w sb tb).drewN _ |>.trans (Xv.ofL Vj tb))
 have Vt := Xr.kept (w := World.drewN w _) HT.o Vj (by simpa using Z3.symm)
 have M1 := Za Vt
 have Y7 := Za Xx
 have t1 := Vt.c1
 have g0 := Vt.fz 0
 have g1 := Vt.fz 1
 have t0 := Vt.c0
 clear Xx Vj Vt
 rcases hw2 with h32 | h32
 ·have e1 : ¬ 32 < t.length := by have := HTS.o; omega
  have hcw := Ii T;rw [HTD.o] at hcw;cases hq : Tl.contains t
  ·rw [hq] at hcw
   have HC := Za hcw;have HQ := Za hq;clear hcw hq;go_wp2_with fail;refine (HC.o _ ?_).mono ?_
   ·exact ((hu1.o.setR 1 _).setR 0 _).words HW.o hgs hgt
   rintro e w' ⟨rfl, rfl⟩;go_wp2;go_ret;rw [Ka.o, if_neg e1, HQ.o];refine ⟨rfl, r, Ra, U8, rfl, ?_, ?_, ?_⟩
   ·exact (Y7.o.kept (K6 _ ⟨tb, 1, none⟩ _) (by simpa using Z3)).kept (K6 _ ⟨tb, 0, none⟩ _) (by simpa using Z3)
   ·rw [<- HTT.o]
    exact (M1.o.set1 T).set0 1
   ·exact (hu1.o.setR 1 _).setR 0 _
  ·rw [hq] at hcw
   have HC := Za hcw;have HQ := Za hq;clear hcw hq;go_wp2_with fail;refine (HC.o _ ?_).mono ?_
   ·exact ((hu1.o.setR 1 _).setR 0 _).words HW.o hgs hgt
   rintro e w' ⟨rfl, rfl⟩;go_wp2;go_ret;rw [Ka.o, if_neg e1, HQ.o];refine ⟨rfl, r, Ra, U8, rfl, ?_, ?_, ?_⟩
   ·exact ((Y7.o.kept (K6 _ ⟨tb, 1, none⟩ _) (by simpa using Z3)).kept (K6 _ ⟨tb, 0, none⟩ _) (by simpa using Z3)).kept (K6 _ ⟨tb, 0, none⟩ _) (by simpa using Z3)
   ·rw [<- HTT.o]
    exact ((M1.o.set1 T).set0 1).set0 2
   ·exact ((hu1.o.setR 1 _).setR 0 _).setR 0 _
 ·have e1 : 32 < t.length := by have := HTS.o; omega
  go_wp2;go_ret;rw [Ka.o, if_pos e1];exact ⟨rfl, by decide, ⟨_, _, M1.o.set1 T⟩, hu1.o.setR 1 _⟩
theorem dF (S : ByteArray) (hS : S.size <= 65536) (sb mb k li ls : Nat) (hk : k < S.size) (tb : Nat) (kd : Int) (tx : ByteArray) (tl tc : Int) (Z3 : sb ≠ tb) (w : World) (Yv : Xa w sb S k li ls mb) (Vm : Xr w tb kd tx tl tc)
  (hl : V2 S[k] = false) (hd : Y9 S[k] = true) :
  Calls prog 62 #[.pointer (some ⟨sb, 0, none⟩), .pointer (some ⟨tb, 0, none⟩)] w (En S sb mb k li ls tb tl tc w (V4 (S.data.toList.drop k))) := by
 have Zb := F1 S[k]
 have Pf := Ad S[k]
 rw [hl] at Zb
 rw [hd] at Pf
 have Zu := Za Zb
 have HDG := Za Pf
 have Yu := dT S hS sb mb k li ls (by omega)
 have Ra := Oe (p := Y9) hk hd
 have U8 := G2 S k Y9 (by omega)
 have hlen : ((S.data.toList.drop k).takeWhile Y9).length <= 65536 := by
  have : k + ((S.data.toList.drop k).takeWhile Y9).length = Y5 S k Y9 := rfl;omega
 obtain ⟨R, hR⟩ := xE (V4 (S.data.toList.drop k))
 rw [<- hR]
 rw [D6 hk, hl, if_neg (by decide), hd, if_pos rfl] at hR
 obtain ⟨r, hr⟩ := xE (Y5 S k Y9)
 obtain ⟨t, ht⟩ := xE ((S.data.toList.drop k).takeWhile Y9)
 rw [<- hr] at Yu Ra U8 hR
 rw [<- ht] at Yu hlen hR
 obtain ⟨T, hT⟩ : ∃ T : ByteArray, T = ⟨t.toArray⟩ := ⟨_, rfl⟩
 rw [<- hT] at Yu
 have hTs : T.size = t.length := by rw [hT, yI]
 have hTd : T.data.toList = t := by rw [hT]
 have hpa := parse_c T (by omega)
 rw [hTd] at hpa
 have Jw := Za Yu
 have HS := Za Yv
 have HT := Za Vm
 have HTT := Za hT
 have c0 := Yv.c0
 have c1 := Yv.c1
 have hkI : (k : Int) < (S.size : Int) := by omega
 clear Zb Pf Yu hr ht Yv Vm hl hd hT hTs hTd hlen
 cases hv : Pi t with
 | none =>
  rw [hv] at hpa hR;have HPA := Za hpa;have Ka := Za hR;clear hpa hR hv;go_enter func62, ntmps62;go_wp2
  go_quiet (fail)
  go_wp2_with fail;refine (Zu.o _).mono ?_;rintro e w' ⟨rfl, rfl⟩;go_wp2_with fail;refine (HDG.o _).mono ?_;rintro e w' ⟨rfl, rfl⟩;go_wp2_with fail;refine (Jw.o _ (by exact HS.o)).mono ?_;rintro e w1 ⟨rfl, Xx, Vj⟩;have hu1 := Za ((Xv.refl w sb tb).drewN _ |>.trans (Xv.ofL Vj tb));have Vt := Xr.kept (w := World.drewN w _) HT.o Vj (by simpa using Z3.symm);have M1 := Za Vt;have Y7 := Za Xx;have t1 := Vt.c1
  have g0 := Vt.fz 0;have g1 := Vt.fz 1;have t0 := Vt.c0;clear Xx Vj Vt;go_wp2_with fail;refine (HPA.o _).mono ?_;rintro e w' ⟨rfl, rfl⟩;simp only [Fz, Option.getD_none, Option.isSome_none];go_wp2;go_ret;rw [Ka.o];exact ⟨rfl, by decide, ⟨_, _, (M1.o.set0 3).set1 T⟩, (hu1.o.setR 0 _).setR 1 _⟩
 | some x =>
  rw [hv] at hpa hR;have HPA := Za hpa;have Ka := Za hR;clear hpa hR hv;go_enter func62, ntmps62;go_wp2
  go_quiet (fail)
  go_wp2_with fail;refine (Zu.o _).mono ?_;rintro e w' ⟨rfl, rfl⟩;go_wp2_with fail;refine (HDG.o _).mono ?_;rintro e w' ⟨rfl, rfl⟩;go_wp2_with fail;refine (Jw.o _ (by exact HS.o)).mono ?_;rintro e w1 ⟨rfl, Xx, Vj⟩;have hu1 := Za ((Xv.refl w sb tb).drewN _ |>.trans (Xv.ofL Vj tb));have Vt := Xr.kept (w := World.drewN w _) HT.o Vj (by simpa using Z3.symm);have M1 := Za Vt;have Y7 := Za Xx;have t1 := Vt.c1
  have g0 := Vt.fz 0;have g1 := Vt.fz 1;have t0 := Vt.c0;clear Xx Vj Vt;go_wp2_with fail;refine (HPA.o _).mono ?_;rintro e w' ⟨rfl, rfl⟩;simp only [Fz, Option.getD_some, Option.isSome_some];go_wp2;go_ret;rw [Ka.o];refine ⟨rfl, r, Ra, U8, rfl, ?_, ?_, ?_⟩
  ·exact (Y7.o.kept (K6 _ ⟨tb, 0, none⟩ _) (by simpa using Z3)).kept (K6 _ ⟨tb, 1, none⟩ _) (by simpa using Z3)
  ·rw [<- HTT.o]
   exact (M1.o.set0 3).set1 T
  ·exact (hu1.o.setR 0 _).setR 1 _
theorem dJ (S : ByteArray) (hS : S.size <= 65536) (sb mb k li ls : Nat) (hk : k < S.size) (tb : Nat) (kd : Int) (tx : ByteArray) (tl tc : Int) (Z3 : sb ≠ tb) (w : World) (Yv : Xa w sb S k li ls mb) (Vm : Xr w tb kd tx tl tc)
  (hq : S[k].toNat = 34) :
  Calls prog 62 #[.pointer (some ⟨sb, 0, none⟩), .pointer (some ⟨tb, 0, none⟩)] w (En S sb mb k li ls tb tl tc w (V4 (S.data.toList.drop k))) := by
 have hq8 : S[k] = 34 := UInt8.toNat_inj.1 hq
 have hl : V2 S[k] = false := by rw [hq8]; decide
 have hd : Y9 S[k] = false := by rw [hq8]; decide
 have Zb := F1 S[k]
 have Pf := Ad S[k]
 rw [hl] at Zb
 rw [hd] at Pf
 have Zu := Za Zb
 have HDG := Za Pf
 rw [D6 hk, hl, if_neg (by decide), hd, if_neg (by decide), if_pos hq8]
 have hrs := dD S hS sb mb k li ls hk tb 4 tx tl tc Z3
 obtain ⟨o, ho⟩ := xE (Ur S (k + 1) [])
 rw [<- ho] at hrs ⊢
 have HRS := Za hrs
 have HS := Za Yv
 have HT := Za Vm
 have c0 := Yv.c0
 have c1 := Yv.c1
 have t0 := Vm.c0
 have g0 := Vm.fz 0
 have hkI : (k : Int) < (S.size : Int) := by omega
 have p1 : ((S[k].toNat : Int) == 34) = true := by simp; omega
 obtain ⟨R, hR⟩ := xE ((match o with | none => Rd.bad 4 | some (said, rest) => if 256 < said.length then .bad 2 else .tok 4 said rest))
 rw [<- hR]
 have Ka := Za hR
 clear Zb Pf hrs ho Yv Vm hl hd hq hq8 hR
 go_enter func62, ntmps62
 go_wp2
 go_quiet (fail)
 go_wp2_with fail
 refine (Zu.o _).mono ?_
 rintro e w' ⟨rfl, rfl⟩
 go_wp2_with fail
 refine (HDG.o _).mono ?_
 rintro e w' ⟨rfl, rfl⟩
 go_wp2_with fail
 have hu0 : xQ (∀ n, Xv w ((w.drewN n).setCell ⟨tb, 0, none⟩ (.int .i64 4)) sb tb) := fun n => ((Xv.refl w sb tb).drewN n).setR 0 _
 refine (HRS.o _ ?_ ?_).mono ?_
 ·exact Xa.kept (w := World.drewN w _) HS.o (K6 _ ⟨tb, 0, none⟩ _) (by simpa using Z3)
 ·exact Xr.set0 (w := World.drewN w _) HT.o 4
 intro e w1 hp
 have HP := Za hp
 clear hp
 cases o with
 | none =>
  obtain ⟨rfl, hg⟩ := HP.o;have HG := Za hg;have M1 := Za ((Xr.set0 (w := World.drewN w _) HT.o 4).kept hg (by simp));clear hg;go_wp2;go_ret;rw [Ka.o];exact ⟨rfl, by decide, ⟨_, _, M1.o⟩, (hu0.o _).trans (.ofNone HG.o sb tb)⟩
 | some sr =>
  obtain ⟨said, rest⟩ := sr;have h2 := HP.o;unfold Cu at h2;simp only at h2;by_cases hl : 256 < said.length
  ·rw [if_pos hl] at h2
   obtain ⟨rfl, hg⟩ := h2;have HG := Za hg;have M1 := Za ((Xr.set0 (w := World.drewN w _) HT.o 4).kept hg (by simp));clear hg;go_wp2;go_ret;rw [Ka.o];simp only [if_pos hl];exact ⟨rfl, by decide, ⟨_, _, M1.o⟩, (hu0.o _).trans (.ofNone HG.o sb tb)⟩
  ·rw [if_neg hl] at h2
   obtain ⟨rfl, m, h3, h4, h5, h6, h7, h8⟩ := h2;have H6 := Za h6;have H7 := Za h7;have H8 := Za h8;have H5 := Za h5;clear h5 h6 h7 h8;go_wp2;go_ret;rw [Ka.o];simp only [if_neg hl];exact ⟨rfl, m, h3, h4, H5.o, H6.o, H7.o, (hu0.o _).trans H8.o⟩
theorem dI (S : ByteArray) (hS : S.size <= 65536) (sb mb k li ls : Nat) (hk : k < S.size) (tb : Nat) (kd : Int) (tx : ByteArray) (tl tc : Int) (Z3 : sb ≠ tb) (w : World) (Yv : Xa w sb S k li ls mb) (Vm : Xr w tb kd tx tl tc)
  (D : DataW Unit) (Xk : w.ownsMap prog 150 unitElem mb 8 D) (hD : St D) (hmt : mb ≠ tb)
  (hl : V2 S[k] = false) (hd : Y9 S[k] = false) (hq : ¬ S[k].toNat = 34) :
  Calls prog 62 #[.pointer (some ⟨sb, 0, none⟩), .pointer (some ⟨tb, 0, none⟩)] w (En S sb mb k li ls tb tl tc w (V4 (S.data.toList.drop k))) := by
 have hq8 : ¬ S[k] = 34 := fun e => hq (by rw [e]; rfl)
 have Zb := F1 S[k]
 have Pf := Ad S[k]
 rw [hl] at Zb
 rw [hd] at Pf
 have Zu := Za Zb
 have HDG := Za Pf
 rw [D6 hk, hl, if_neg (by decide), hd, if_neg (by decide), if_neg hq8]
 have hrs := fun w a b c => dC S hS sb mb k li ls hk tb 5 tx tl tc Z3 w a b D c hD
 have U8 := Oh (S.data.toList.drop k)
 rw [List.length_drop, Xw] at U8
 obtain ⟨n, hn⟩ := xE (V5 (S.data.toList.drop k))
 rw [<- hn] at hrs U8 ⊢
 have HRS := Za hrs
 have HS := Za Yv
 have HT := Za Vm
 have HO := Za Xk
 have c0 := Yv.c0
 have c1 := Yv.c1
 have t0 := Vm.c0
 have g0 := Vm.fz 0
 have hkI : (k : Int) < (S.size : Int) := by omega
 have p1 : ((S[k].toNat : Int) == 34) = false := by simp; omega
 obtain ⟨R, hR⟩ := xE ((if n = 0 then Rd.bad 5 else .tok 5 ((S.data.toList.drop k).take n) (S.data.toList.drop (k + n))))
 rw [<- hR]
 have Ka := Za hR
 clear Zb Pf hrs hn Yv Vm hl hd hq hq8 hR Xk hD
 go_enter func62, ntmps62
 go_wp2
 go_quiet (fail)
 go_wp2_with fail
 refine (Zu.o _).mono ?_
 rintro e w' ⟨rfl, rfl⟩
 go_wp2_with fail
 refine (HDG.o _).mono ?_
 rintro e w' ⟨rfl, rfl⟩
 go_wp2_with fail
 have hu0 : xQ (∀ n, Xv w ((w.drewN n).setCell ⟨tb, 0, none⟩ (.int .i64 5)) sb tb) := fun n => ((Xv.refl w sb tb).drewN n).setR 0 _
 refine (HRS.o _ ?_ ?_ ?_).mono ?_
 ·exact Xa.kept (w := World.drewN w _) HS.o (K6 _ ⟨tb, 0, none⟩ _) (by simpa using Z3)
 ·exact Xr.set0 (w := World.drewN w _) HT.o 5
 ·exact World.ownsMap.setCell (w := World.drewN w _) HO.o hmt _
 intro e w1 hp
 have HP := Za hp
 clear hp
 by_cases h0 : n = 0
 ·have h2 := HP.o
  rw [Ct, if_pos h0] at h2;obtain ⟨rfl, hg⟩ := h2;have HG := Za hg;have M1 := Za ((Xr.set0 (w := World.drewN w _) HT.o 5).kept hg (by simp));clear hg;go_wp2;go_ret;rw [Ka.o, if_pos h0];exact ⟨rfl, by decide, ⟨_, _, M1.o⟩, (hu0.o _).trans (.ofNone HG.o sb tb)⟩
 ·have h2 := HP.o
  rw [Ct, if_neg h0] at h2;obtain ⟨rfl, h6, h7, h8⟩ := h2;have H6 := Za h6;have H7 := Za h7;have H8 := Za h8;clear h6 h7 h8;go_wp2;go_ret;rw [Ka.o, if_neg h0];exact ⟨rfl, k + n, by omega, by omega, rfl, H6.o, H7.o, (hu0.o _).trans H8.o⟩
theorem read_c (S : ByteArray) (hS : S.size <= 65536) (sb mb k li ls : Nat) (hk : k < S.size) (tb : Nat) (kd : Int) (tx : ByteArray) (tl tc : Int) (Z3 : sb ≠ tb) (w : World) (Yv : Xa w sb S k li ls mb) (Vm : Xr w tb kd tx tl tc)
  (hw : Words w) (hgs : 4 ≠ sb) (hgt : 4 ≠ tb) (D : DataW Unit) (Xk : w.ownsMap prog 150 unitElem mb 8 D) (hD : St D) (hmt : mb ≠ tb) :
  Calls prog 62 #[.pointer (some ⟨sb, 0, none⟩), .pointer (some ⟨tb, 0, none⟩)] w (En S sb mb k li ls tb tl tc w (V4 (S.data.toList.drop k))) := by
 cases hl : V2 S[k]
 ·cases hd : Y9 S[k]
  ·by_cases hq : S[k].toNat = 34
   ·exact dJ S hS sb mb k li ls hk tb kd tx tl tc Z3 w Yv Vm hq
   ·exact dI S hS sb mb k li ls hk tb kd tx tl tc Z3 w Yv Vm D Xk hD hmt hl hd hq
  ·exact dF S hS sb mb k li ls hk tb kd tx tl tc Z3 w Yv Vm hl hd
 ·exact dG S hS sb mb k li ls hk tb kd tx tl tc Z3 w Yv Vm hw hgs hgt hl
end Go.Proofs.YtfoejkhfdiodhaaGreatDoor.Lx
namespace Go.Proofs.YtfoejkhfdiodhaaGreatDoor.Lx
open Go.Proofs.Tryz
def J2 (R : Lx) (rest : List UInt8) (li co : Nat) (acc : List Tok) : Prop :=
 ∃ f l0 li0 co0, Vg false l0 li0 co0 = (rest, li, co) /\ rest.length <= f /\ R = (B8 (f + 1) l0 li0 co0 acc.length).pre acc
theorem uJ {l rest : List UInt8} {li co : Nat} (hl : l.length <= 65536) (h : Vg false l 1 1 = (rest, li, co)) : J2 (Tk l) rest li co [] := by
 refine ⟨l.length, l, 1, 1, h, ?_, ?_⟩
 ·have := Oi false l 1 1
  rw [h] at this;exact this.length_le
 ·rw [Tk, if_neg (by omega), fK]
  rfl
theorem uH {R : Lx} {li co : Nat} {acc : List Tok} (h : J2 R [] li co acc) : R = .toks (acc ++ [⟨0, [], li, co⟩]) := by
 obtain ⟨f, l0, li0, co0, h1, _, h2⟩ := h
 rw [h2, lexGo_end h1]
 rfl
theorem uG {R : Lx} {rest : List UInt8} {li co : Nat} {acc : List Tok} {e : Int} (h : J2 R rest li co acc) (hr : rest ≠ []) (he : V4 rest = .bad e) : R = .bad e li co := by
 obtain ⟨f, l0, li0, co0, h1, _, h2⟩ := h
 rw [h2, lexGo_bad h1 hr he]
 rfl
theorem uI {R : Lx} {rest t r2 : List UInt8} {li co : Nat} {acc : List Tok} {k : Int} (h : J2 R rest li co acc) (hr : rest ≠ []) (he : V4 rest = .tok k t r2) (hn : acc.length = 8192) : R = .bad 19 li co := by
 obtain ⟨f, l0, li0, co0, h1, _, h2⟩ := h
 rw [h2, hn, lexGo_many h1 hr he]
 rfl
theorem uK {R : Lx} {rest t r2 r3 : List UInt8} {li co li3 co3 : Nat} {acc : List Tok} {k : Int} (h : J2 R rest li co acc) (hr : rest ≠ []) (he : V4 rest = .tok k t r2) (hn : acc.length ≠ 8192)
  (hs : Vg false r2 li (co + (rest.length - r2.length)) = (r3, li3, co3)) : J2 R r3 li3 co3 (acc ++ [⟨k, t, li, co⟩]) := by
 obtain ⟨f, l0, li0, co0, h1, hf, h2⟩ := h
 obtain ⟨c, hc, Z3⟩ := yB he
 have Zo : r2.length < rest.length := by
  rw [hc, List.length_append];have := List.length_pos_iff.2 Z3;omega
 obtain ⟨g, rfl⟩ : ∃ g, f = g + 1 := ⟨f - 1, by omega⟩
 refine ⟨g, r2, li, _, hs, ?_, ?_⟩
 ·have := Oi false r2 li (co + (rest.length - r2.length))
  rw [hs] at this;have := this.length_le;simp at this;omega
 ·rw [h2, lexGo_tok h1 hr he hn, fL, List.length_append]
  rfl
end Go.Proofs.YtfoejkhfdiodhaaGreatDoor.Lx
namespace Go.Proofs.YtfoejkhfdiodhaaGreatDoor.Lx
open Go.Proofs.Tryz
open Go.RowKit
def Tok.cells (t : Tok) : List Value := [.int .i64 t.kind, .string ⟨t.text.toArray⟩, .int .i64 t.line, .int .i64 t.col]
def tokCells (ts : List Tok) : List Value := ts.flatMap Tok.cells
theorem pN (ts : List Tok) (t : Tok) : tokCells (ts ++ [t]) = tokCells ts ++ Tok.cells t := by simp [tokCells]
def diagA (li co e : Int) : Value := .agg #[.int .i64 0, .int .i64 li, .int .i64 co, .int .i64 e]
def LexPost (w : World) (R : Lx) (e : Ending) (w' : World) : Prop :=
 Below w.heap.size w w' /\ match R with
 | .inr (x, li, co) => e = .returned (.tuple #[.slice none 0 0, diagA li co x])
 | .inl ts => ∃ g cap, e = .returned (.tuple #[.slice (some ⟨g, 0, none⟩) ts.length cap, diagA 0 0 0]) /\ w'.ownsRow w.heap.size 81 4 (.slice (some ⟨g, 0, none⟩) ts.length cap) ts.length (tokCells ts)
theorem results_tmp_cell {fn : Func} {p u : Tmp} {ty : TypeId} (h : fn.results = #[.tmp u, .cell p ty]) (tmps : Array Value) {P : Program} {w : World} {g : Nat} {t : TypeId} {cs : Array Value} {fr : Nat × Nat} {fs : Array Field}
  (hp : tmps.getD p undef = .pointer (some ⟨g, 0, none⟩)) (hg : w.heap[g]? = some (.cells cs t fr))
  (hu : P.underlying ty = some (.struct fs)) (hi : (P.info? ty).map (·.size) = some cs.size) :
  (results fn tmps).run P w = .ok (.tuple #[tmps.getD u undef, .agg cs]) w := by
 have hp' : tmps[p]?.getD undef = .pointer (some ⟨g, 0, none⟩) := by simpa using hp
 simp [results, h, hp', asAddr, run_loadVar_row w g t ty cs fr _ hg hu rfl hi]
theorem Df : (prog.info? 29).map (·.size) = some 4 := by kernel_rfl
theorem vS : (prog.info? 81).map (fun i => (i.zero, i.size, i.bytes)) = some (some (.agg #[.int .i64 0, .string { data := #[] }, .int .i64 0, .int .i64 0]), 4, 40) := by kernel_rfl
theorem k8 (S : ByteArray) (hS : 65536 < S.size) (K7 : S.size <= 140737488351232) (w : World) :
  Calls prog 24 #[.string S] w (LexPost w (.bad 2 1 1)) := by
 go_enter func24, ntmps24
 go_wp2
 refine bodyPost_ret (results_tmp_cell rfl _ rfl (xL w _) underlying29 Df) rfl ?_
 exact ⟨(Below.refl _ w).alloc (xR) _, rfl⟩
def Bt (w : World) (b : Nat) (li co e : Int) : Prop := w.heap[b]? = some (.cells #[.int .i64 0, .int .i64 li, .int .i64 co, .int .i64 e] 29 (0, 0))
section
variable {w : World} {b : Nat} {li co e : Int}
theorem Bt.c (h : Bt w b li co e) (o : Nat) (ho : o < 4) : w.cell? ⟨b, o, none⟩ = some (([.int .i64 0, .int .i64 li, .int .i64 co, .int .i64 e] : List Value).getD o undef) := by
 unfold Bt at h
 match o, ho with
 | 0, _ => simp [World.cell?, h]
 | 1, _ => simp [World.cell?, h]
 | 2, _ => simp [World.cell?, h]
 | 3, _ => simp [World.cell?, h]
theorem Bt.fz (h : Bt w b li co e) (o : Nat) : w.frozen? ⟨b, o, none⟩ = false := by unfold Bt at h; simp [World.frozen?, h]
theorem Bt.set (h : Bt w b li co e) (li' co' e' : Int) : Bt ((((w.setCell ⟨b, 0, none⟩ (.int .i64 0)).setCell ⟨b, 1, none⟩ (.int .i64 li')).setCell ⟨b, 2, none⟩ (.int .i64 co')).setCell ⟨b, 3, none⟩ (.int .i64 e')) b li' co' e' :=
 Xe (Xe (Xe (Xe h)))
end
theorem Gn {a w : World} {b : Nat} (h : Below b a w) (x y z u : Value) : Below b a ((((w.setCell ⟨b, 0, none⟩ x).setCell ⟨b, 1, none⟩ y).setCell ⟨b, 2, none⟩ z).setCell ⟨b, 3, none⟩ u) :=
 (((h.setCell (xR) _).setCell (xR) _).setCell (xR) _).setCell (xR) _
structure L6 (w wr : World) (D : DataW Unit) (sb : Nat) (v : Value) (acc : List Tok) : Prop where
 mp : wr.ownsMap prog 150 unitElem (w.heap.size + 1) 8 D
 dg : Bt wr w.heap.size 0 0 0
 bl : Below w.heap.size w wr
 wd : Words wr
 ow : wr.ownsRow (sb + 1) 81 4 v acc.length (tokCells acc)
 sbl : w.heap.size + 2 <= sb
 sz : sb < wr.heap.size
 w0 : 4 < w.heap.size
theorem Gx {w : World} {B e z n : Nat} {v : Value} {xs : List Value} (h : w.ownsRow B e z v n xs) : ∀ j, v.ownBlock = some j -> B <= j /\ j < w.heap.size := by
 intro j hj
 rcases h.2 with ⟨h1, h2⟩ | ⟨g, cap, cur, h1, h2, h3, _⟩
 ·rw [h1] at hj; cases hj
 ·rw [h1] at hj
  simp [Value.ownBlock] at hj;have := xB h3;omega
section
variable {w wr wr' : World} {D : DataW Unit} {sb : Nat} {v : Value} {acc : List Tok}
theorem L6.upd (h : L6 w wr D sb v acc) {tb : Nat} (hu : Xv wr wr' sb tb) (ht : sb + 1 <= tb) (hv : v.ownBlock ≠ some tb) : L6 w wr' D sb v acc where
 mp := hu.map h.mp (by have := h.sbl; omega) (by have := h.sbl; omega)
 dg := by
  have := h.sbl;have := h.sz;unfold Bt;rw [hu.block _ (by omega) (by omega) (by omega)];exact h.dg
 bl := h.bl.trans (hu.below h.bl.size (by have := h.sbl; omega) (by have := h.sbl; omega))
 wd := hu.words h.wd (by have := h.sbl; have := h.w0; omega) (by have := h.sbl; have := h.w0; omega)
 ow := hu.owns h.ow (fun e => by have := (Gx h.ow _ e).1; omega) hv
 sbl := h.sbl
 sz := xT h.sz hu.size
 w0 := h.w0
theorem L6.none (h : L6 w wr D sb v acc) (hg : wr.grownBy wr' none) : L6 w wr' D sb v acc :=
 h.upd (tb := wr.heap.size) (Xv.ofNone hg sb _) h.sz (fun e => by have := (Gx h.ow _ e).2; omega)
theorem L6.skip (h : L6 w wr D sb v acc) (hg : wr.grownBy wr' (some sb)) : L6 w wr' D sb v acc :=
 h.upd (tb := wr.heap.size) (Xv.ofL hg _) h.sz (fun e => by have := (Gx h.ow _ e).2; omega)
theorem L6.app (h : L6 w wr D sb v acc) {ob : Obj} {v' : Value} {w1 : World} {t : Tok} (ho : w1.ownsRow (sb + 1) 81 4 v' (acc.length + 1) (tokCells acc ++ Tok.cells t)) (hg : (wr.alloc ob).grownBy w1 v.ownBlock) : L6 w w1 D sb v' (acc ++ [t]) /\
  ∀ i, i < wr.heap.size -> i <= sb -> w1.heap[i]? = wr.heap[i]? := by
 have Je : ∀ i, i < wr.heap.size -> i <= sb -> w1.heap[i]? = wr.heap[i]? := fun i hi U8 => by
  rw [hg.block i (by simp; omega) (fun e => by have := (Gx h.ow _ e.symm).1; omega), xA hi]
 have hsz := h.sz
 have hsbl := h.sbl
 have hw0 := h.w0
 refine ⟨⟨?_, ?_, ?_, ?_, ?_, hsbl, ?_, hw0⟩, Je⟩
 ·obtain ⟨es, clock, hh, r⟩ := h.mp
  exact ⟨es, clock, by rw [Je _ (xB hh) (by omega)]; exact hh, r⟩
 ·unfold Bt
  rw [Je _ (by omega) (by omega)];exact h.dg
 ·refine (h.bl.alloc h.bl.size _).grown hg (by have := h.bl.size; simp; omega) fun j hj => ?_
  have := (Gx h.ow _ hj).1;omega
 ·intro i hi
  rw [World.cell?_of_block (w := wr) (Je 4 (by omega) (by omega))];exact h.wd i hi
 ·rw [List.length_append, pN]
  exact ho
 ·have := hg.size
  simp at this;omega
end
theorem Oj (W : World) (t : Tok) (ty : TypeId) : ∀ j u, (Tok.cells t)[j]? = some u -> (W.alloc (.cells #[.int .i64 t.kind, .string ⟨t.text.toArray⟩, .int .i64 t.line, .int .i64 t.col] ty)).cell? ((⟨W.heap.size, 0, none⟩ : Addr).add j) = some u := by
 intro j u hj
 have Fq : (⟨W.heap.size, 0, none⟩ : Addr).add j = ⟨W.heap.size, j, none⟩ := by unfold Addr.add; split <;> simp_all
 rw [Fq, cell_of_row _ _ j _ ty (0, 0) (xL W _)]
 simpa [Tok.cells] using hj
theorem Ok (t : Tok) : ∀ u ∈ Tok.cells t, u.oneCell' = true := by
 intro u hu
 simp [Tok.cells] at hu
 rcases hu with rfl | rfl | rfl | rfl <;> rfl
theorem tO {w : World} {B B' e z n : Nat} {v : Value} {xs : List Value} (h : w.ownsRow B e z v n xs) (hB : B' <= B) : w.ownsRow B' e z v n xs := by
 obtain ⟨h1, h2⟩ := h
 refine ⟨h1, ?_⟩
 rcases h2 with h2 | ⟨g, cap, cur, rfl, hg, hh, r⟩
 ·exact .inl h2
 ·exact .inr ⟨g, cap, cur, rfl, by omega, hh, r⟩
theorem jA (S : ByteArray) (hS : S.size <= 65536) (w : World) (hw : Words w) :
  Calls prog 24 #[.string S] w (LexPost w (Tk S.data.toList)) := by
 obtain ⟨R, hR⟩ := xE (Tk S.data.toList)
 rw [<- hR]
 have HR := Za hR
 have HW := Za hw
 clear hR hw
 go_enter func24, ntmps24
 go_wp2_with fail
 refine (rH _).mono ?_
 rintro e w1 ⟨rfl, D, Xk, hD, hb⟩
 have HD := Za hD
 have hsz := Xk.lt
 simp only [xS] at Xk hsz hb
 have Ex : xQ (L6 w (w1.alloc (.cells #[.string S, .int .i64 0, .int .i64 1, .int .i64 0, .map (some (w.heap.size + 1))] 109)) D w1.heap.size (.slice none 0 0) []) := by
  have Zt : Below w.heap.size w w1 := (((Below.refl _ w).alloc (xR) _).trans (hb.mono (Nat.le_succ _)))
  refine ⟨Xk.alloc _, ?_, Zt.alloc Zt.size _, ?_, World.ownsRow_nil _ _ _ _, by omega, by simp, HW.o.lt⟩
  ·unfold Bt
   rw [xA (by omega), hb.block w.heap.size (xU _)];exact xL w _
  ·exact HW.o.below (Zt.alloc Zt.size _)
 clear hD Xk hb
 go_wp2_with fail
 refine (qR S hS w1.heap.size (w.heap.size + 1) 0 1 0 (by omega) (by omega) (by omega) _ (xL w1 _)).mono ?_
 rintro e w2 ⟨rfl, k0, li0, ls0, Yv, hg, _, hk, Ng, B5, hskip⟩
 have Ns := Za (Ex.o.skip hg)
 have Zd := Za (uJ (l := S.data.toList) (by rw [Xw]; exact hS) hskip)
 have Wc := Za Yv
 have h0l : ([] : List Tok).length <= 8192 := by simp
 rw [<- HR.o] at Zd
 clear Ex hg hskip Yv
 obtain ⟨i0, hi, Wp, Xy, Wr⟩ := info_parts vS
 obtain ⟨sb, Ws⟩ := xE w1.heap.size
 rw [<- Ws] at Ns Wc ⊢
 clear Ws hsz
 go_wp2
 go_loopw [5] (fun v wr => ∃ (k li ls : Nat) (acc : List Tok), xQ (L6 w wr D sb v acc) /\ xQ (Xa wr sb S k li ls (w.heap.size + 1)) /\ k <= S.size /\ ls <= k /\ li <= k + 1 /\ acc.length <= 8192 /\ xQ (J2 R (S.data.toList.drop k) li (k - ls + 1) acc)) (fun _ wr => S.size - Cv wr sb)
 case atStart => exact ⟨k0, li0, ls0, [], Ns, Wc, hk, Ng, B5, h0l, Zd⟩
 case round =>
  clear Ns Wc Zd hk Ng B5;obtain ⟨k, li, ls, acc, Th, Yv, hk, Ng, B5, Na, Zd⟩ := hrel;obtain ⟨a, cap, rfl⟩ := zT Th.o.ow;have c1 := Yv.o.c1;have hat1 := Za (Xa.at Yv.o);by_cases Zo : k < S.size
  ·have Z3 : S.data.toList.drop k ≠ [] := by
    rw [Va S k Zo]; simp
   have Bu := Za Z3;clear Z3;go_wp2_with fail;refine (vM S sb (w.heap.size + 1) k li ls (by omega) Ng _ Yv.o).mono ?_;rintro e wa ⟨rfl, Vk⟩;have H3 := Za (Th.o.none (Vk.trans (World.grownBy_alloc wa (.cells #[.int .i64 0, .string ByteArray.empty, .int .i64 li, .int .i64 ((k - ls + 1 : Nat) : Int)] 81) _)));have hsca := Za (Yv.o.kept (Vk.trans (World.grownBy_alloc wa (.cells #[.int .i64 0, .string ByteArray.empty, .int .i64 li, .int .i64 ((k - ls + 1 : Nat) : Int)] 81) _)) (by simp))
   have hszw : sb < wa.heap.size := xT Th.o.sz Vk.size
   have hvn : xQ ((Value.slice a acc.length cap).ownBlock ≠ some wa.heap.size) := fun e => by
    have := (Gx Th.o.ow _ e).2;have := Vk.size;omega
   have hsbl := Th.o.sbl;have hw0 := Th.o.w0;clear Vk c1 Th Yv;unfold tokA;go_wp2_with fail;refine (read_c S hS sb (w.heap.size + 1) k li ls Zo wa.heap.size 0 ByteArray.empty li ((k - ls + 1 : Nat) : Int) (by omega) _ hsca.o (xL wa _) H3.o.wd (by omega) (by omega) D H3.o.mp HD.o (by omega)).mono ?_;intro e wc hp;have HP := Za hp;clear hp
   cases Vl : V4 (S.data.toList.drop k) with
   | inl x =>
    have hp := HP.o;rw [Vl] at hp;obtain ⟨rfl, hx, ⟨kd, tx, Ww⟩, hu⟩ := hp;have S3 := uG Zd.o Bu.o Vl;have Xm := H3.o.upd hu (by omega) hvn.o;have t2 := Ww.c2;have t3 := Ww.c3;have Pf := Za Xm.dg;have Z8 := Za Xm.bl;have g0 := Xm.dg.c 0 (by omega);have g1 := Xm.dg.c 1 (by omega);have g2 := Xm.dg.c 2 (by omega);have g3 := Xm.dg.c 3 (by omega);simp only [List.getD_cons_zero, List.getD_cons_succ] at g0 g1 g2 g3
    have z0 := Xm.dg.fz 0;have z1 := Xm.dg.fz 1;have z2 := Xm.dg.fz 2;have z3 := Xm.dg.fz 3
    have x0 : (x == 0) = false := by simpa using hx
    subst S3;clear Vl HP hu Xm H3 hsca Ww;go_wp2;go_region
    all_goals
     go_wp2;refine bodyPost_ret (results_tmp_cell rfl _ rfl (Pf.o.set _ _ _) underlying29 Df) rfl ?_;exact ⟨(Gn Z8.o _ _ _ _).drew, rfl⟩
   | inr q =>
    obtain ⟨kd, t, rest⟩ := q;have hp := HP.o;rw [Vl] at hp;obtain ⟨rfl, m, hkm, hmS, H9, hscc, Ww, hu⟩ := hp;have Xm := Za (H3.o.upd hu (by omega) hvn.o);have hscc := Za hscc;have U2 := Za Vl;have Sf := Za H9;have t0 := Ww.c0;have t1 := Ww.c1;have t2 := Ww.c2;have t3 := Ww.c3;clear Vl HP hu H3 hsca Ww H9;by_cases Ab : acc.length = 8192
    ·have B6 : ((acc.length : Int) == 8192) = true := by simp; omega
     have S3 := uI Zd.o Bu.o U2.o Ab;have Pf := Za Xm.o.dg;have Z8 := Za Xm.o.bl;have g0 := Xm.o.dg.c 0 (by omega);have g1 := Xm.o.dg.c 1 (by omega);have g2 := Xm.o.dg.c 2 (by omega);have g3 := Xm.o.dg.c 3 (by omega);simp only [List.getD_cons_zero, List.getD_cons_succ] at g0 g1 g2 g3;have z0 := Xm.o.dg.fz 0;have z1 := Xm.o.dg.fz 1;have z2 := Xm.o.dg.fz 2;have z3 := Xm.o.dg.fz 3;subst S3;go_wp2;go_region
     all_goals
      go_wp2;refine bodyPost_ret (results_tmp_cell rfl _ rfl (Pf.o.set _ _ _) underlying29 Df) rfl ?_;exact ⟨(Gn Z8.o _ _ _ _).drew, rfl⟩
    ·have B6 : ((acc.length : Int) == 8192) = false := by simp; omega
     go_wp2_with (at_builtin; refine wpList_append_own _ rfl (.tmp 39) (.tmp 41) 68 rfl (sb + 1) 81 i0 _ 4 40 underlying68 hi Wp Xy Wr rfl (by decide) _ _ _ rfl (Xm.o.ow.alloc _) ⟨_, 0, none⟩ 1 1 (Tok.cells ⟨kd, t, li, k - ls + 1⟩) rfl rfl (Oj _ ⟨kd, t, li, k - ls + 1⟩ 81) (Ok _) (by unfold maxLen; omega) (by omega) (by have := Xm.o.sz; simp; omega) ?_)
     intro v' w3 Z1 Zy _;obtain ⟨U7, Je⟩ := Xm.o.app Z1 Zy
     have hsc3 : Xa w3 sb S m li ls (w.heap.size + 1) := by
      unfold Xa;rw [Je sb Xm.o.sz (xR)];exact hscc.o
     have HCO3 := Za U7;have HSC3 := Za hsc3;clear Z1 Zy U7 Je hsc3 t0 t1 t2 t3 Xm hscc;go_wp2_with fail;refine (qR S hS sb (w.heap.size + 1) m li ls hmS (by omega) (by omega) _ HSC3.o).mono ?_;rintro e w4 ⟨rfl, k4, li4, ls4, hs4, hg4, hm4, Lv, hls4, hli4, hskip4⟩;have HCO4 := Za (HCO3.o.skip hg4)
     have HAT4 : xQ (J2 R (S.data.toList.drop k4) li4 (k4 - ls4 + 1) (acc ++ [⟨kd, t, li, k - ls + 1⟩])) := by
      refine uK Zd.o Bu.o U2.o Ab ?_;rw [Sf.o, List.length_drop, List.length_drop, Xw];rw [show k - ls + 1 + (S.size - k - (S.size - m)) = m - ls + 1 from by omega];exact hskip4
     have Xp := Za hs4;clear hg4 hs4 hskip4;go_wp2;refine ⟨⟨k4, li4, ls4, acc ++ [⟨kd, t, li, k - ls + 1⟩], HCO4, Xp, Lv, hls4, hli4, by simp; omega, HAT4⟩, ?_⟩;have e1 := hat1.o;have e2 := Xp.o.at;rw [e1, e2];omega
  ·have hnil : S.data.toList.drop k = [] := List.drop_eq_nil_of_le (by rw [Xw]; omega)
   have Nc := Zd.o;rw [hnil] at Nc;have HEND := Za (uH Nc);clear hnil Nc;go_wp2_with fail;refine (vM S sb (w.heap.size + 1) k li ls (by omega) Ng _ Yv.o).mono ?_;rintro e wa ⟨rfl, Vk⟩;have H3 := Za (Th.o.none Vk);clear Vk c1 Th Yv;unfold tokA
   go_wp2_with (at_builtin; refine wpList_append_own _ rfl (.tmp 43) (.tmp 45) 68 rfl (sb + 1) 81 i0 _ 4 40 underlying68 hi Wp Xy Wr rfl (by decide) _ _ _ rfl (H3.o.ow.alloc _) ⟨_, 0, none⟩ 1 1 (Tok.cells ⟨0, [], li, k - ls + 1⟩) rfl rfl (Oj _ ⟨0, [], li, k - ls + 1⟩ 81) (Ok _) (by unfold maxLen; omega) (by omega) (by have := H3.o.sz; simp; omega) ?_)
   intro v' w3 Z1 Zy _;obtain ⟨U7, Je⟩ := H3.o.app (t := ⟨0, [], li, k - ls + 1⟩) Z1 Zy;have Pf := Za U7.dg;have Z8 := Za U7.bl;have hsbl := U7.sbl
   obtain ⟨g, cap', rfl⟩ : ∃ g cap', v' = .slice (some ⟨g, 0, none⟩) (acc.length + 1) cap' := by
    rcases Z1.2 with ⟨_, h0⟩ | ⟨g, cap', cur, h1, _⟩
    ·omega
    ·exact ⟨g, cap', h1⟩
   have hgb := (Gx Z1 g rfl).1;have how := Za U7.ow;have g0 := U7.dg.c 0 (by omega);have g1 := U7.dg.c 1 (by omega);have g2 := U7.dg.c 2 (by omega);have g3 := U7.dg.c 3 (by omega);simp only [List.getD_cons_zero, List.getD_cons_succ] at g0 g1 g2 g3;have z0 := U7.dg.fz 0;have z1 := U7.dg.fz 1;have z2 := U7.dg.fz 2;have z3 := U7.dg.fz 3;clear Z1 Zy U7 Je H3;go_wp2;refine bodyPost_ret (results_tmp_cell rfl _ rfl (Pf.o.set _ _ _) underlying29 Df) rfl ?_
   rw [HEND.o];refine ⟨Gn Z8.o _ _ _ _, g, cap', ?_, ?_⟩
   ·simp [diagA]
   ·have ho := tO how.o (show w.heap.size <= sb + 1 by omega)
    rw [List.length_append] at ho ⊢
    have Z3 : ∀ o, (Value.slice (some ⟨g, 0, none⟩) (acc.length + 1) cap').ownBlock ≠ some (⟨w.heap.size, o, none⟩ : Addr).block := fun o e => by
     simp [Value.ownBlock] at e;omega
    exact ownsRow_setCell_other (ownsRow_setCell_other (ownsRow_setCell_other (ownsRow_setCell_other ho (Z3 0) _) (Z3 1) _) (Z3 2) _) (Z3 3) _
theorem lex_c (S : ByteArray) (hS : S.size <= 140737488351232) (w : World) (hw : Words w) : Calls prog 24 #[.string S] w (LexPost w (Tk S.data.toList)) := by
 by_cases h : S.size <= 65536
 ·exact jA S h w hw
 ·rw [Tk, if_pos (by rw [Xw]; omega)]
  exact k8 S (by omega) hS w
end Go.Proofs.YtfoejkhfdiodhaaGreatDoor.Lx
namespace Go.Proofs.YtfoejkhfdiodhaaGreatDoor
open Go.Proofs.Tryz
open Go.RowKit
def J6 {α : Type} (w : World) (z : Value) (rep : Nat -> World -> Value -> α -> Prop) (R : α ⊕ (Int × Nat × Nat)) (e : Ending) (w' : World) : Prop :=
 Below w.heap.size w w' /\ match R with
 | .inl x => ∃ v, e = .returned (.tuple #[v, M6 0 0 0]) /\ rep w.heap.size w' v x
 | .inr (er, li, co) => e = .returned (.tuple #[z, M6 li co er])
theorem Ol {w : World} {B e g cap : Nat} {ts : List Tok} (h : w.ownsRow B e 4 (.slice (some ⟨g, 0, none⟩) ts.length cap) ts.length (Lx.tokCells ts)) : Gl w g ts := fun i hi => by
 have hc : ∀ j, j < 4 -> w.cell? ⟨g, i * 4 + j, none⟩ = (Lx.Tok.cells (Zk ts i))[j]? := fun j hj => by
  rw [h.cellAt (i * 4 + j) (by omega)]
  have hf : ∀ (ts : List Tok) (i : Nat) (hi : i < ts.length), (Lx.tokCells ts)[i * 4 + j]? = (Lx.Tok.cells ts[i])[j]? := by
   intro ts
   induction ts with
   | nil => intro i hi; cases hi
   | cons t r ih =>
    intro i hi
    cases i with
    | zero =>
     rw [Lx.tokCells, List.flatMap_cons, List.getElem?_append_left (by simp [Lx.Tok.cells]; omega)];simp
    | succ i =>
     rw [Lx.tokCells, List.flatMap_cons, List.getElem?_append_right (by simp [Lx.Tok.cells]; omega)];have := ih i (by simpa using hi);rw [Lx.tokCells] at this;simp only [List.getElem_cons_succ];rw [<- this]
     congr 1
     simp [Lx.Tok.cells];omega
  rw [hf ts i hi];unfold Zk;rw [List.getD_eq_getElem?_getD, List.getElem?_eq_getElem hi];rfl
 exact ⟨hc 0 (by omega), hc 1 (by omega), hc 2 (by omega), hc 3 (by omega)⟩
theorem fP {w : World} {pb tb cap a d b : Nat} {ts : List Tok} (h : Ps w pb tb cap ts a d) (h1 : b ≠ pb) (h2 : b ≠ tb) (x0 x1 x2 x3 : Value) : Ps ((((w.setCell ⟨b, 0, none⟩ x0).setCell ⟨b, 1, none⟩ x1).setCell ⟨b, 2, none⟩ x2).setCell ⟨b, 3, none⟩ x3) pb tb cap ts a d :=
 ⟨(Xs (fun e => h1 e.symm) _ _ _ _).trans h.blk, h.tlt, Qk h.toks (Xs (fun e => h2 e.symm) _ _ _ _), h.lt⟩
theorem Yb.drew {lo : Nat} {w : World} {v : Value} {D : Ty} (h : Yb lo w v D) : Yb lo w.drew v D := h.keep (xR) fun _ _ _ => rfl
def Bh {α : Type} (r : Pr α) : α ⊕ (Int × Nat × Nat) := match r with
 | .inl (t, _) => .inl t
 | .inr e => .inr e
theorem rM {l : List UInt8} {ts : List Tok} (h : Tk l = .inl ts) : Hq l = Bh (Bz ts (Xl ts ts.length 101 0 0)) := by
 unfold Hq Bh
 rw [h]
 simp only
 cases Bz ts (Xl ts ts.length 101 0 0) <;> rfl
theorem La {fn : Func} {p q : Tmp} {ty ty' : TypeId} (h : fn.results = #[.cell p ty, .cell q ty']) (tmps : Array Value) {P : Program} {w : World} {g g' : Nat} {t t' : TypeId} {cs cs' : Array Value} {fs fs' : Array Field}
  (hp : tmps.getD p undef = .pointer (some ⟨g, 0, none⟩)) (hg : w.heap[g]? = some (.cells cs t)) (hu : P.underlying ty = some (.struct fs)) (hi : (P.info? ty).map (·.size) = some cs.size)
  (hp' : tmps.getD q undef = .pointer (some ⟨g', 0, none⟩)) (Pg : w.heap[g']? = some (.cells cs' t')) (hu' : P.underlying ty' = some (.struct fs')) (Qs : (P.info? ty').map (·.size) = some cs'.size) :
  (results fn tmps).run P w = .ok (.tuple #[.agg cs, .agg cs']) w := by
 have e1 : tmps[p]?.getD undef = .pointer (some ⟨g, 0, none⟩) := by simpa using hp
 have e2 : tmps[q]?.getD undef = .pointer (some ⟨g', 0, none⟩) := by simpa using hp'
 simp [results, h, e1, e2, asAddr, run_loadVar_row w g t ty cs (0, 0) _ hg hu rfl hi, run_loadVar_row w g' t' ty' cs' (0, 0) _ Pg hu' rfl Qs]
theorem Rx {fn : Func} {p q : Tmp} {ty ty' : TypeId} (h : fn.results = #[.cell p ty, .cell q ty']) (tmps : Array Value) {P : Program} {w : World} {g g' : Nat} {t t' : TypeId} {cs cs' : Array Value} {fs fs' : Array Field}
  (hp : tmps.getD p undef = .pointer (some ⟨g, 0, none⟩)) (hg : w.heap[g]? = some (.cells cs t)) (hu : P.underlying ty = some (.struct fs)) (hi : (P.info? ty).map (·.size) = some cs.size)
  (hp' : tmps.getD q undef = .pointer (some ⟨g', 0, none⟩)) (Pg : w.heap[g']? = some (.cells cs' t')) (hu' : P.underlying ty' = some (.struct fs')) (Qs : (P.info? ty').map (·.size) = some cs'.size) :
  (results fn tmps).run P w.drew = .ok (.tuple #[.agg cs, .agg cs']) w.drew := La h tmps hp (by rw [Hc]; exact hg) hu hi hp' (by rw [Hc]; exact Pg) hu' Qs
theorem eG (S : ByteArray) (hS : S.size <= 140737488351232) (w : World) (hw : Lx.Words w) :
  Calls prog 20 #[.string S, .func (.func 21) #[] #[]] w (J6 w zTy Yb (Hq S.data.toList)) := by
 have hmf : ∀ (fn : Fn) (first cap : Array Value) (w : World), (Instr.makeFunc fn first cap).run prog w = .ok (.func fn first cap) w := fun _ _ _ _ => rfl
 have HX := Za (fun wx (hb : Below w.heap.size w wx) => Lx.lex_c S hS wx (hw.below hb))
 have Vv := zE
 clear hw
 go_enter_defers func20, ntmps20
 go_wp2_with fail
 refine (HX.o _ (Zx (Zq _ _) (Zq _ _))).mono ?_
 intro e w2 Zg
 obtain ⟨Z0, hm⟩ := Zg
 have Yx := Za (Zx (Zx (Zq _ _) (Zq _ _)) Z0)
 have HA := Za ((Z0.block w.heap.size (by rw [xS, xS]; omega)).trans ((xA (by rw [xS]; omega)).trans (xL w _)))
 have HD := Za ((Z0.block (w.heap.size + 1) (by rw [xS, xS]; omega)).trans (Ti w _ _))
 clear Z0
 obtain ⟨⟨a0, a1, a2, a3⟩, ⟨z0, z1, z2, z3⟩, Lw⟩ := Z6 HA.o
 obtain ⟨⟨d0, d1, d2, d3⟩, ⟨g0, g1, g2, g3⟩, Jc⟩ := Z6 HD.o
 cases hl : Tk S.data.toList with
 | inr p =>
  obtain ⟨x, li, co⟩ := p;rw [hl] at hm;simp only at hm;subst hm
  have hx0 : (x != 0) = true := by simpa using Ip hl
  have HE : xQ (Hq S.data.toList = .inr (x, li, co)) := by show _ = _; unfold Hq; rw [hl]
  clear hl;unfold Lx.diagA;go_wp2_with fail;go_region
  all_goals
   go_wp2_with fail;have hh1 := Xs (w := w2) (b := w.heap.size + 1) (i := w.heap.size) (by omega) (.int .i64 0) (.int .i64 li) (.int .i64 co) (.int .i64 x)
   have Vk := (set4 (hh1.trans HA.o) (.int .i64 0) (.string ⟨#[]⟩) (.slice none 0 0) (.slice none 0 0))
   have Ui := set4 ((Xs (b := w.heap.size) (i := w.heap.size + 1) (by omega) (.int .i64 0) (.string ⟨#[]⟩) (.slice none 0 0) (.slice none 0 0)).trans (set4 HD.o (.int .i64 0) (.int .i64 li) (.int .i64 co) (.int .i64 x))) (.int .i64 0) (.int .i64 li) (.int .i64 co) (.int .i64 x);refine ⟨.tuple #[zTy, M6 li co x], Rx rfl _ rfl ((Xs (b := w.heap.size + 1) (i := w.heap.size) (by omega) (.int .i64 0) (.int .i64 li) (.int .i64 co) (.int .i64 x)).trans Vk) underlying42 F4 rfl Ui underlying29 (by kernel_rfl), ?_⟩
   rw [HE.o];exact ⟨(V9 (V9 (V9 Yx.o (by omega) _ _ _ _) (xR) _ _ _ _) (by omega) _ _ _ _).drew, rfl⟩
 | inl ts =>
  rw [hl] at hm;obtain ⟨g, cap, rfl, Xk⟩ := hm;have OK := Za (E2 hl);have HE := Za (rM hl);have HTc := Za (Ol Xk)
  have He : g < w2.heap.size /\ w.heap.size + 2 <= g := by
   have := Xk.lt g rfl;rw [xS, xS] at this;omega
  obtain ⟨hgl1, hgl2⟩ := He;obtain ⟨Wd, Mp⟩ := xE ((((w2.setCell ⟨w.heap.size + 1, 0, none⟩ (.int .i64 0)).setCell ⟨w.heap.size + 1, 1, none⟩ (.int .i64 0)).setCell ⟨w.heap.size + 1, 2, none⟩ (.int .i64 0)).setCell ⟨w.heap.size + 1, 3, none⟩ (.int .i64 0))
  have hWs : Wd.heap.size = w2.heap.size := by rw [Mp, Mg]
  have HAd : xQ (Wd.heap[w.heap.size]? = some Xt) := by rw [Mp]; exact (Xs (by omega) _ _ _ _).trans HA.o
  have HDd : xQ (Wd.heap[w.heap.size + 1]? = some (.cells #[.int .i64 0, .int .i64 0, .int .i64 0, .int .i64 0] 29)) := by rw [Mp]; exact set4 HD.o _ _ _ _
  have HTd : xQ (Gl Wd g ts) := Qk HTc.o (by rw [Mp]; exact Xs (by omega) _ _ _ _)
  have HBd : xQ (Below w.heap.size w Wd) := by rw [Mp]; exact V9 Yx.o (by omega) _ _ _ _
  clear hl Xk;unfold Lx.diagA;go_wp2_with fail;rw [<- Mp, <- hWs]
  have P0 : Ps (Wd.alloc (.cells #[.slice (some ⟨g, 0, none⟩) ts.length cap, .int .i64 0, .int .i64 0] 74)) Wd.heap.size g cap ts 0 0 :=
   ⟨xL _ _, by omega, Qk HTd.o (xA (by omega)), OK.o.pos⟩
  have HP0 := Za P0;clear P0;refine (zD Wd.heap.size g cap ts OK.o 101 0 0 _ rfl (by omega) HP0.o).mono ?_;intro e w3 Zg;have K0 := Za Zg;have V1 := Zg.1;have L7 := Za ((V1.below.block w.heap.size (by omega)).trans ((xA (by omega)).trans HAd.o));have Qm := Za ((V1.below.block (w.heap.size + 1) (by omega)).trans ((xA (by omega)).trans HDd.o));have Vr : xQ (Below w.heap.size w w3) := (HBd.o.alloc (by omega) _).trans (V1.below.mono (by omega))
  have Wt := Za V1.size;clear Zg V1 a0 a1 a2 a3 z0 z1 z2 z3 d0 d1 d2 d3 g0 g1 g2 g3;rcases Yj K0.o with ⟨er, li, co, hr, rfl, Zb⟩ | ⟨D, b, v, hr, rfl, Zb, Zc, hv⟩
  ·have To : xQ (Hq S.data.toList = .inr (er, li, co)) := by rw [HE.o, hr]; exact rfl
   clear hr Zb;go_wp2_with fail;refine leaves_cons (f := 45) (args := #[.pointer (some ⟨w.heap.size, 0, none⟩), .pointer (some ⟨w.heap.size + 1, 0, none⟩)]) (by simp) (by simp [go_sem]) ?_;refine (wC w.heap.size (w.heap.size + 1) li co er [] w3 _ _ _ _ _ _ _ _ L7.o Qm.o (by omega)).mono ?_;rintro e u' w4 ⟨rfl, rfl, ⟨h1, h2⟩, h3⟩;show ∃ v, _;refine ⟨_, La rfl _ rfl h1 underlying42 F4 rfl h2 underlying29 (by kernel_rfl), ?_⟩
   rw [To.o];exact ⟨Vr.o.trans (h3.o _ (xR) (by omega)), rfl⟩
  ·obtain ⟨k1, nm1, na1, nl1, nc1, ka1, kl1, kc1, rfl⟩ := hv.cells
   have HV := Za hv;have Vy := Za Zc;have HK := Za hr;obtain ⟨⟨a0, a1, a2, a3⟩, ⟨z0, z1, z2, z3⟩, hla3⟩ := Z6 L7.o;obtain ⟨⟨d0, d1, d2, d3⟩, ⟨g0, g1, g2, g3⟩, hld3⟩ := Z6 Qm.o;rw [hWs] at Vy;have HPe := Za (fP Vy.o (b := w.heap.size) (by omega) (by omega) (.int .i64 k1) (.string nm1) (.slice na1 nl1 nc1) (.slice ka1 kl1 kc1));have HAe := Za (set4 L7.o (.int .i64 k1) (.string nm1) (.slice na1 nl1 nc1) (.slice ka1 kl1 kc1))
   have HDe := Za ((Xs (b := w.heap.size) (i := w.heap.size + 1) (by omega) (.int .i64 k1) (.string nm1) (.slice na1 nl1 nc1) (.slice ka1 kl1 kc1)).trans Qm.o);have HBe := Za (V9 Vr.o (xR) (.int .i64 k1) (.string nm1) (.slice na1 nl1 nc1) (.slice ka1 kl1 kc1));have HVe := Za (HV.o.set4 (b := w.heap.size) (by rw [xS]; omega) (.int .i64 k1) (.string nm1) (.slice na1 nl1 nc1) (.slice ka1 kl1 kc1));have Ub := Za (Mg w3 w.heap.size (.int .i64 k1) (.string nm1) (.slice na1 nl1 nc1) (.slice ka1 kl1 kc1))
   clear hr Zb Zc hv;go_wp2_with fail;obtain ⟨We, Pu⟩ := xE ((((w3.setCell ⟨w.heap.size, 0, none⟩ (.int .i64 k1)).setCell ⟨w.heap.size, 1, none⟩ (.string nm1)).setCell ⟨w.heap.size, 2, none⟩ (.slice na1 nl1 nc1)).setCell ⟨w.heap.size, 3, none⟩ (.slice ka1 kl1 kc1));rw [<- Pu] at HPe HAe HDe HBe HVe Ub ⊢;clear Pu a0 a1 a2 a3 z0 z1 z2 z3 d0 d1 d2 d3 g0 g1 g2 g3;refine (O2 w2.heap.size g cap b 0 ts _ HPe.o).mono ?_
   intro e w4 Zg;have V1 := Zg.1;have hpe := HPe.o.ltp;have Lf := Za ((V1.below.block w.heap.size (by omega)).trans HAe.o);have My := Za ((V1.below.block (w.heap.size + 1) (by omega)).trans HDe.o);have Mk : xQ (Below w.heap.size w w4) := HBe.o.trans (V1.below.mono (by omega))
   have P4 : xQ (Yb (w2.heap.size + 1) w4 (.agg #[.int .i64 k1, .string nm1, .slice na1 nl1 nc1, .slice ka1 kl1 kc1]) D) := by
    have := HVe.o;rw [xS, hWs] at this;exact this.stay V1 (by omega)
   have HPo4 := Za Zg;clear Zg V1;rcases Yj HPo4.o with ⟨er, li, co, hr, rfl, Zb⟩ | ⟨u, b', v, hr, rfl, Zb, Zc, hv⟩
   ·have To : xQ (Hq S.data.toList = .inr (er, li, co)) := by
     rw [HE.o, HK.o];show Bh (if (Zk ts b).kind == 0 then .inl (D, b) else Wa ts 7 b) = _;by_cases h0 : ((Zk ts b).kind == 0) = true
     ·rw [if_pos h0] at hr; cases hr
     ·rw [if_neg h0] at hr ⊢
      injection hr with hr;exact congrArg Sum.inr hr
    clear hr Zb;go_wp2_with fail;refine leaves_cons (f := 45) (args := #[.pointer (some ⟨w.heap.size, 0, none⟩), .pointer (some ⟨w.heap.size + 1, 0, none⟩)]) (by simp) (by simp [go_sem]) ?_;refine (wC w.heap.size (w.heap.size + 1) li co er [] w4 _ _ _ _ _ _ _ _ Lf.o My.o (by omega)).mono ?_;rintro e u' w5 ⟨rfl, rfl, ⟨h1, h2⟩, h3⟩;show ∃ v, _;refine ⟨_, La rfl _ rfl h1 underlying42 F4 rfl h2 underlying29 (by kernel_rfl), ?_⟩
    rw [To.o];exact ⟨Mk.o.trans (h3.o _ (xR) (by omega)), rfl⟩
   ·have To : xQ (Hq S.data.toList = .inl D) := by
     rw [HE.o, HK.o];show Bh (if (Zk ts b).kind == 0 then .inl (D, b) else Wa ts 7 b) = _;by_cases h0 : ((Zk ts b).kind == 0) = true
     ·rw [if_pos h0]; exact rfl
     ·rw [if_neg h0] at hr; cases hr
    obtain ⟨⟨a0, a1, a2, a3⟩, ⟨z0, z1, z2, z3⟩, hla4⟩ := Z6 Lf.o;obtain ⟨⟨d0, d1, d2, d3⟩, ⟨g0, g1, g2, g3⟩, hld4⟩ := Z6 My.o;clear hr Zb Zc hv;go_wp2_with fail;go_region
    all_goals
     go_wp2_with fail;have Vk := (Xs (b := w.heap.size + 1) (i := w.heap.size) (by omega) (.int .i64 0) (.int .i64 0) (.int .i64 0) (.int .i64 0)).trans (set4 Lf.o (.int .i64 k1) (.string nm1) (.slice na1 nl1 nc1) (.slice ka1 kl1 kc1));have Ui := set4 ((Xs (b := w.heap.size) (i := w.heap.size + 1) (by omega) (.int .i64 k1) (.string nm1) (.slice na1 nl1 nc1) (.slice ka1 kl1 kc1)).trans My.o) (.int .i64 0) (.int .i64 0) (.int .i64 0) (.int .i64 0)
     have hT := ((P4.o.set4 (b := w.heap.size) (by omega) (.int .i64 k1) (.string nm1) (.slice na1 nl1 nc1) (.slice ka1 kl1 kc1)).set4 (b := w.heap.size + 1) (by omega) (.int .i64 0) (.int .i64 0) (.int .i64 0) (.int .i64 0)).lower (lo' := w.heap.size) (by omega);have hBf := V9 (V9 Mk.o (xR) (.int .i64 k1) (.string nm1) (.slice na1 nl1 nc1) (.slice ka1 kl1 kc1)) (show w.heap.size <= w.heap.size + 1 by omega) (.int .i64 0) (.int .i64 0) (.int .i64 0) (.int .i64 0)
     generalize ((((((((w4.setCell ⟨w.heap.size, 0, none⟩ (.int .i64 k1)).setCell ⟨w.heap.size, 1, none⟩ (.string nm1)).setCell ⟨w.heap.size, 2, none⟩ (.slice na1 nl1 nc1)).setCell ⟨w.heap.size, 3, none⟩ (.slice ka1 kl1 kc1)).setCell ⟨w.heap.size + 1, 0, none⟩ (.int .i64 0)).setCell ⟨w.heap.size + 1, 1, none⟩ (.int .i64 0)).setCell ⟨w.heap.size + 1, 2, none⟩ (.int .i64 0)).setCell ⟨w.heap.size + 1, 3, none⟩ (.int .i64 0)) = Wf at Vk Ui hT hBf ⊢
     refine leaves_cons (f := 45) (args := #[.pointer (some ⟨w.heap.size, 0, none⟩), .pointer (some ⟨w.heap.size + 1, 0, none⟩)]) (by simp) (by simp [go_sem]) ?_;refine (bO ⟨w.heap.size, 0, none⟩ ⟨w.heap.size + 1, 0, none⟩ _).mono ?_;rintro e u' w5 ⟨rfl, rfl, rfl⟩;show ∃ v, _;refine ⟨_, Rx rfl _ rfl Vk underlying42 F4 rfl Ui underlying29 (by kernel_rfl), ?_⟩;rw [To.o];exact ⟨hBf.drew, _, rfl, hT.drew⟩
theorem fB (S : ByteArray) (hS : S.size <= 140737488351232) (w : World) (hw : Lx.Words w) :
  Calls prog 9 #[.string S] w (J6 w zTy Yb (Hq S.data.toList)) := by
 have HW := Za (eG S hS _ (hw.below (Zx (Zq w Xt) (Zq _ (.cells #[.int .i64 0, .int .i64 0, .int .i64 0, .int .i64 0] 29)))))
 obtain ⟨R, hR⟩ := xE (Hq S.data.toList)
 rw [<- hR] at HW ⊢
 clear hw hR
 go_enter func9, ntmps9
 go_wp2_with fail
 refine HW.o.mono ?_
 intro e w2 Zg
 obtain ⟨Z0, hm⟩ := Zg
 have Yx := Za (Zx (Zx (Zq _ _) (Zq _ _)) Z0)
 have HA := Za ((Z0.block w.heap.size (by rw [xS, xS]; omega)).trans ((xA (by rw [xS]; omega)).trans (xL w _)))
 have HD := Za ((Z0.block (w.heap.size + 1) (by rw [xS, xS]; omega)).trans (Ti w _ _))
 clear Z0
 obtain ⟨⟨a0, a1, a2, a3⟩, ⟨z0, z1, z2, z3⟩, Lw⟩ := Z6 HA.o
 obtain ⟨⟨d0, d1, d2, d3⟩, ⟨g0, g1, g2, g3⟩, Jc⟩ := Z6 HD.o
 rw [xS, xS] at hm
 rcases R with D | ⟨er, li, co⟩
 ·obtain ⟨v, rfl, hv⟩ := hm
  obtain ⟨k1, nm1, na1, nl1, nc1, ka1, kl1, kc1, rfl⟩ := hv.cells;have HV := Za hv;clear hv;go_wp2_with fail;have Vk := (Xs (b := w.heap.size + 1) (i := w.heap.size) (by omega) (.int .i64 0) (.int .i64 0) (.int .i64 0) (.int .i64 0)).trans (set4 HA.o (.int .i64 k1) (.string nm1) (.slice na1 nl1 nc1) (.slice ka1 kl1 kc1));have Ui := set4 ((Xs (b := w.heap.size) (i := w.heap.size + 1) (by omega) (.int .i64 k1) (.string nm1) (.slice na1 nl1 nc1) (.slice ka1 kl1 kc1)).trans HD.o) (.int .i64 0) (.int .i64 0) (.int .i64 0) (.int .i64 0)
  refine bodyPost_ret (La rfl _ rfl Vk underlying42 F4 rfl Ui underlying29 (by kernel_rfl)) rfl ⟨V9 (V9 Yx.o (xR) _ _ _ _) (by omega) _ _ _ _, _, rfl, ?_⟩;exact ((HV.o.set4 (b := w.heap.size) (by omega) _ _ _ _).set4 (b := w.heap.size + 1) (by omega) _ _ _ _).lower (by omega)
 ·subst hm
  go_wp2_with fail;have Vk := (Xs (b := w.heap.size + 1) (i := w.heap.size) (by omega) (.int .i64 0) (.int .i64 li) (.int .i64 co) (.int .i64 er)).trans (set4 HA.o (.int .i64 0) (.string ⟨#[]⟩) (.slice none 0 0) (.slice none 0 0));have Ui := set4 ((Xs (b := w.heap.size) (i := w.heap.size + 1) (by omega) (.int .i64 0) (.string ⟨#[]⟩) (.slice none 0 0) (.slice none 0 0)).trans HD.o) (.int .i64 0) (.int .i64 li) (.int .i64 co) (.int .i64 er)
  refine bodyPost_ret (La rfl _ rfl Vk underlying42 F4 rfl Ui underlying29 (by kernel_rfl)) rfl ⟨V9 (V9 Yx.o (xR) _ _ _ _) (by omega) _ _ _ _, rfl⟩
theorem bN (p q : Addr) (w : World) :
  CallsD prog 42 #[.pointer (some p), .pointer (some q)] .returning w fun e u' w' => e = .returned (.tuple #[]) /\ u' = .returning /\ w' = w := by
 have hn := zP
 refine callsD_of_wpS func42 rfl fun c₀ cs hu => ?_
 apply wpS_seq
 apply wpS_region
 simp [wpOpsS, go_sem, recoverD, hu, ntmps42, Exit.thenS]
 refine wpS_of_wp ?_
 simp only [Array.replicate, List.replicate, List.setIfInBounds_toArray, List.set_cons_zero, List.set_cons_succ, List.append_toArray, List.cons_append, List.nil_append]
 go_wp2
 cases c₀
 simp_all [bodyPostS, results, results42]
theorem wB (ab db : Nat) (li co x : Int) (older : List PanicEntry) (w : World) (y : NV) (x0 x1 x2 x3 : Value) (ha : w.heap[ab]? = some y.obj) (hd : w.heap[db]? = some (.cells #[x0, x1, x2, x3] 29)) (K8 : ab ≠ db) :
  CallsD prog 42 #[.pointer (some ⟨ab, 0, none⟩), .pointer (some ⟨db, 0, none⟩)] (.panicking ({ v := .iface 29 (M6 li co x), recovered := false } :: older)) w fun e u' w' => e = .returned (.tuple #[]) /\ u' = .panicking ({ v := .iface 29 (M6 li co x), recovered := true } :: older) /\
   (w'.heap[ab]? = some Zi.obj /\ w'.heap[db]? = some (.cells #[.int .i64 0, .int .i64 li, .int .i64 co, .int .i64 x] 29)) /\ xQ (∀ B, B <= ab -> B <= db -> Below B w w') := by
 have hn := zO
 have hta := Ox
 obtain ⟨⟨a0, a1, a2, a3, a4, a5, a6, a7⟩, ⟨z0, z1, z2, z3, z4, z5, z6, z7⟩, Lw⟩ := Zm ha
 obtain ⟨⟨d0, d1, d2, d3⟩, ⟨g0, g1, g2, g3⟩, Jc⟩ := Z6 hd
 have HA := Za ha
 have HD := Za hd
 clear ha hd
 have hab' : ¬ db = ab := fun e => K8 e.symm
 refine callsD_of_wpS func42 rfl fun c₀ cs hu => ?_
 apply wpS_seq
 apply wpS_region
 simp [wpOpsS, go_sem, recoverD, hu, ntmps42, Exit.thenS]
 refine wpS_of_wp ?_
 simp only [Array.replicate, List.replicate, List.setIfInBounds_toArray, List.set_cons_zero, List.set_cons_succ, List.append_toArray, List.cons_append, List.nil_append]
 go_wp2
 go_region
 all_goals
  go_wp2;refine ⟨rfl, _, rfl, .tuple #[], results_none rfl _ _ _, rfl, rfl, ⟨?_, ?_⟩, fun B h1 h2 => ?_⟩
  ·rw [Hc]
   refine (xA (by simp only [Ye]; exact Lw)).trans ?_;exact (Xs K8 _ _ _ _).trans (Xn (x := Zi) HA.o)
  ·rw [Hc]
   refine (xA (by simp only [Ye]; exact Jc)).trans ?_;exact set4 ((U0 (x := Zi) hab').trans HD.o) _ _ _ _
  ·exact ((V9 (Sx (x := Zi) (Below.refl _ w) h1) h2 _ _ _ _).alloc (by simp only [Ye]; omega) _).drew
end Go.Proofs.YtfoejkhfdiodhaaGreatDoor
