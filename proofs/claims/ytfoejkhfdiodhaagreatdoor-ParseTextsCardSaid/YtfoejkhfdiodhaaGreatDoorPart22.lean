/- Part. -/
import Derived.Test.YtfoejkhfdiodhaaGreatDoorPart21
set_option maxRecDepth 100000
set_option maxHeartbeats 4000000
namespace Go.Proofs.YtfoejkhfdiodhaaGreatDoor.Lx
open Go.Proofs.Tryz
open Go.RowKit
def Er (S : ByteArray) (w : World) (R : Rd) (e : Ending) (w' : World) : Prop :=
 Below w.heap.size w w' /\ match R with
 | .inl x => x ≠ 0 /\ e = .returned (.tuple #[.agg #[.int .i64 0, .string { data := #[] }, .int .i64 0, .int .i64 0], .int .i64 0, .int .i64 x])
 | .inr (k, t, rest) => ∃ n : Nat, 0 < n /\ n <= S.size /\ rest = S.data.toList.drop n /\ e = .returned (.tuple #[.agg #[.int .i64 k, .string ⟨t.toArray⟩, .int .i64 0, .int .i64 0], .int .i64 n, .int .i64 0])
theorem G1 {fn : Func} {p u v : Tmp} {ty : TypeId} (h : fn.results = #[.cell p ty, .tmp u, .tmp v]) (tmps : Array Value) {P : Program} {w : World} {g : Nat} {t : TypeId} {cs : Array Value} {fr : Nat × Nat} {fs : Array Field}
  (hp : tmps.getD p undef = .pointer (some ⟨g, 0, none⟩)) (hg : w.heap[g]? = some (.cells cs t fr))
  (hu : P.underlying ty = some (.struct fs)) (hi : (P.info? ty).map (·.size) = some cs.size) :
  (results fn tmps).run P w = .ok (.tuple #[.agg cs, tmps.getD u undef, tmps.getD v undef]) w := by
 have hp' : tmps[p]?.getD undef = .pointer (some ⟨g, 0, none⟩) := by simpa using hp
 simp [results, h, hp', asAddr, run_loadVar_row w g t ty cs fr _ hg hu rfl hi]
theorem G4 : (prog.info? 81).map (·.size) = some 4 := by kernel_rfl
theorem Xr.set {w : World} {tb : Nat} {kind : Int} {text : ByteArray} {li co : Int} (h : Xr w tb kind text li co) (k' : Int) (t' : ByteArray) (li' co' : Int) :
  Xr ((((w.setCell ⟨tb, 0, none⟩ (.int .i64 k')).setCell ⟨tb, 1, none⟩ (.string t')).setCell ⟨tb, 2, none⟩ (.int .i64 li')).setCell ⟨tb, 3, none⟩ (.int .i64 co')) tb k' t' li' co' :=
 Xe (Xe (Xe (Xe h)))
theorem pO {w w2 : World} (h : Below (w.alloc (.cells #[.int .i64 0, .string { data := #[] }, .int .i64 0, .int .i64 0] 81)).heap.size (w.alloc (.cells #[.int .i64 0, .string { data := #[] }, .int .i64 0, .int .i64 0] 81)) w2) : Xr w2 w.heap.size 0 { data := #[] } 0 0 := by
 unfold Xr
 rw [h.block _ (by simp)]
 exact xL w _
theorem kQ {b : UInt8} (h : V2 b = true) : Y9 b = false := by
 cases hd : Y9 b
 ·rfl
 ·rw [Io hd] at h
  cases h
theorem qM (S : ByteArray) (p : UInt8 -> Bool) : (S.extract 0 (Y5 S 0 p)).data.toList = S.data.toList.takeWhile p := by
 rw [O4, List.drop_zero]
theorem rA (S : ByteArray) (h0 : 0 < S.size) (hS : S.size <= 65536) (hl : V2 S[0] = true) (w : World) : Calls prog 75 #[.string S] w (Er S w (V4 S.data.toList)) := by
 have Vl := D6 (k := 0) h0
 rw [List.drop_zero, hl, if_pos rfl] at Vl
 have Nv := Du S[0]
 have Bl := Dg S[0]
 rw [hl] at Nv
 rw [kQ hl] at Bl
 have N6 := Za Nv
 have Pw := Za Bl
 have hgt := Oe (p := Y8) h0 (by simp [Y8, hl])
 have U8 := G2 S 0 Y8 (by omega)
 have Vm := qM S Y8
 have Xu : Y5 S 0 Y8 = (S.data.toList.takeWhile Y8).length := by unfold Y5; simp
 rw [<- Xu, <- Vm] at Vl
 obtain ⟨r, hr⟩ := xE (Y5 S 0 Y8)
 have Yu := Za hr
 have hwc := eJ (S.extract 0 r)
 rw [<- hr] at Vl hgt U8
 obtain ⟨R, hR⟩ := xE (V4 S.data.toList)
 rw [<- hR] at Vl ⊢
 have U2 := Za Vl
 have HWC := Za hwc
 have h0I : (0 : Int) < (S.size : Int) := by omega
 clear Nv Bl hl hr Vl Vm Xu hR hwc
 go_enter func75, ntmps75
 go_wp2_with fail
 refine (N6.o _).mono ?_
 rintro e w' ⟨rfl, rfl⟩
 go_wp2_with fail
 refine (Pw.o _).mono ?_
 rintro e w' ⟨rfl, rfl⟩
 go_wp2
 go_loop [7] (fun i => ∃ m : Nat, m <= S.size /\ i = .int .i64 m /\ xQ (r = Y5 S m Y8)) (fun i => S.size - (intOf i).toNat)
 case atStart => exact ⟨0, xZ _, rfl, Yu⟩
 case round =>
  obtain ⟨m, hm, rfl, hrm⟩ := hrel;by_cases Nu : ∃ h : m < S.size, Y8 S[m] = true
  ·obtain ⟨Zo, Nu⟩ := Nu
   have Dk : (m : Int) < (S.size : Int) := by omega
   have Wh := Du S[m];have Tr := Dg S[m];have N : xQ (r = Y5 S (m + 1) Y8) := hrm.o.trans (F0 Zo Nu)
   have K8 : (V2 S[m] = true /\ Y9 S[m] = false) ∨ (V2 S[m] = false /\ Y9 S[m] = true) ∨ (V2 S[m] = true /\ Y9 S[m] = true) := by
    revert Nu
    unfold Y8
    cases V2 S[m] <;> cases Y9 S[m] <;> simp
   clear Nu;rcases K8 with ⟨ha, hb⟩ | ⟨ha, hb⟩ | ⟨ha, hb⟩
   all_goals
    rw [ha] at Wh;rw [hb] at Tr;have Tx := Za Wh;have Nm := Za Tr;clear Wh Tr ha hb;go_wp2_with fail;refine (Tx.o _).mono ?_;rintro e w' ⟨rfl, rfl⟩;go_wp2_with fail;refine (Nm.o _).mono ?_;rintro e w' ⟨rfl, rfl⟩;go_wp2
    go_round
    case rel => exact ⟨m + 1, by omega, by go_num, N⟩
    case measure => simp [intOf]; omega
  ·have hmr : r = m := by
    by_cases Zo : m < S.size
    ·rw [hrm.o]
     refine Ap Zo ?_;cases hq : Y8 S[m]
     ·rfl
     ·exact absurd ⟨Zo, hq⟩ Nu
    ·rw [hrm.o, Ao Zo]
   subst hmr
   have mI : (r : Int) <= (S.size : Int) := by omega
   have hex : (∃ h : r < S.size, (r : Int) < (S.size : Int) /\ V2 S[r] = false /\ Y9 S[r] = false) ∨ ¬ (r : Int) < (S.size : Int) := by
    by_cases Zo : r < S.size
    ·have : Y8 S[r] = false := by
      cases hq : Y8 S[r]
      ·rfl
      ·exact absurd ⟨Zo, hq⟩ Nu
     unfold Y8 at this;rw [Bool.or_eq_false_iff] at this;exact .inl ⟨Zo, by omega, this.1, this.2⟩
    ·exact .inr (by omega)
   clear Nu hrm Yu;rcases hex with ⟨Zo, Dk, ha, hb⟩ | Dk
   all_goals
    first
    | (have Wh := Du S[r]
       have Tr := Dg S[r];rw [ha] at Wh;rw [hb] at Tr;have Tx := Za Wh;have Nm := Za Tr;clear Wh Tr ha hb;go_wp2_with fail;refine (Tx.o _).mono ?_;rintro e w' ⟨rfl, rfl⟩;go_wp2_with fail;refine (Nm.o _).mono ?_
       rintro e w' ⟨rfl, rfl⟩)
    | skip
    by_cases h32 : 32 < r
    ·have h32I : (32 : Int) < (r : Int) := by omega
     have e1 := U2.o;rw [if_pos h32] at e1;subst e1;clear U2;go_wp2;refine bodyPost_ret (G1 rfl _ rfl (xL w _) underlying81 G4) rfl ?_;exact ⟨Zq w _, by decide, rfl⟩
    ·have h32I : ¬ (32 : Int) < (r : Int) := by omega
     have e1 := U2.o;rw [if_neg h32] at e1;have Tn := Za e1;clear e1 U2;go_wp2_with fail;refine (HWC.o _).mono ?_;rintro e w2 ⟨rfl, Z0⟩;have Ww := pO Z0;have HTB := Za Ww;have c0 := Ww.c0;have c1 := Ww.c1;have c2 := Ww.c2;have c3 := Ww.c3;have f0 := Ww.fz 0;have f1 := Ww.fz 1;have f2 := Ww.fz 2;have f3 := Ww.fz 3;have Yx := Za (Zx (Zq w _) Z0);obtain ⟨b, hb⟩ := xE (Tl.contains (S.extract 0 r).data.toList)
     rw [<- hb] at Tn ⊢;clear Z0 Ww hb;cases b
     ·go_wp2
      refine bodyPost_ret (G1 rfl _ rfl (HTB.o.set _ _ _ _) underlying81 G4) rfl ?_;rw [Tn.o];exact ⟨Gn Yx.o _ _ _ _, r, hgt, U8, rfl, rfl⟩
     ·go_wp2
      refine bodyPost_ret (G1 rfl _ rfl (HTB.o.set _ _ _ _) underlying81 G4) rfl ?_;rw [Tn.o];exact ⟨Gn Yx.o _ _ _ _, r, hgt, U8, rfl, rfl⟩
theorem a8 (S : ByteArray) (h0 : 0 < S.size) (hS : S.size <= 65536) (hd : Y9 S[0] = true) (w : World) : Calls prog 75 #[.string S] w (Er S w (V4 S.data.toList)) := by
 have Vl := D6 (k := 0) h0
 rw [List.drop_zero, Io hd, hd, if_neg (by decide), if_pos rfl] at Vl
 have Nv := Du S[0]
 have Bl := Dg S[0]
 rw [Io hd] at Nv
 rw [hd] at Bl
 have N6 := Za Nv
 have Pw := Za Bl
 have hgt := Oe (p := Y9) h0 hd
 have U8 := G2 S 0 Y9 (by omega)
 have Vm := qM S Y9
 rw [<- Vm] at Vl
 obtain ⟨r, hr⟩ := xE (Y5 S 0 Y9)
 have Yu := Za hr
 rw [<- hr] at Vl hgt U8
 have hxs : (S.extract 0 r).size <= 65536 := by
  rw [<- Xw, Dh];simp;omega
 have hpc := parseR_c (S.extract 0 r)
 obtain ⟨R, hR⟩ := xE (V4 S.data.toList)
 rw [<- hR] at Vl ⊢
 have U2 := Za Vl
 have HPC := Za (fun w => hpc w (by omega))
 have h0I : (0 : Int) < (S.size : Int) := by omega
 clear Nv Bl hd hr Vl Vm hR hpc hxs
 go_enter func75, ntmps75
 go_wp2_with fail
 refine (N6.o _).mono ?_
 rintro e w' ⟨rfl, rfl⟩
 go_wp2_with fail
 refine (Pw.o _).mono ?_
 rintro e w' ⟨rfl, rfl⟩
 go_wp2
 go_loop [7] (fun i => ∃ m : Nat, m <= S.size /\ i = .int .i64 m /\ xQ (r = Y5 S m Y9)) (fun i => S.size - (intOf i).toNat)
 case atStart => exact ⟨0, xZ _, rfl, Yu⟩
 case round =>
  obtain ⟨m, hm, rfl, hrm⟩ := hrel;by_cases Nu : ∃ h : m < S.size, Y9 S[m] = true
  ·obtain ⟨Zo, Nu⟩ := Nu
   have Dk : (m : Int) < (S.size : Int) := by omega
   have Wh := Du S[m];have Tr := Dg S[m];have N : xQ (r = Y5 S (m + 1) Y9) := hrm.o.trans (F0 Zo Nu);rw [Io Nu] at Wh;rw [Nu] at Tr;have Tx := Za Wh;have Nm := Za Tr;clear Wh Tr Nu;go_wp2_with fail;refine (Tx.o _).mono ?_;rintro e w' ⟨rfl, rfl⟩;go_wp2_with fail;refine (Nm.o _).mono ?_;rintro e w' ⟨rfl, rfl⟩;go_wp2
   go_round
   case rel => exact ⟨m + 1, by omega, by go_num, N⟩
   case measure => simp [intOf]; omega
  ·have hmr : r = m := by
    by_cases Zo : m < S.size
    ·rw [hrm.o]
     refine Ap Zo ?_;cases hq : Y9 S[m]
     ·rfl
     ·exact absurd ⟨Zo, hq⟩ Nu
    ·rw [hrm.o, Ao Zo]
   subst hmr
   have mI : (r : Int) <= (S.size : Int) := by omega
   have hex : (∃ h : r < S.size, (r : Int) < (S.size : Int) /\ Y9 S[r] = false) ∨ ¬ (r : Int) < (S.size : Int) := by
    by_cases Zo : r < S.size
    ·have : Y9 S[r] = false := by
      cases hq : Y9 S[r]
      ·rfl
      ·exact absurd ⟨Zo, hq⟩ Nu
     exact .inl ⟨Zo, by omega, this⟩
    ·exact .inr (by omega)
   clear Nu hrm Yu;rcases hex with ⟨Zo, Dk, hb⟩ | Dk
   all_goals
    first
    | (have Wh := Du S[r]
       have Tr := Dg S[r];rw [hb] at Tr;have Tx := Za Wh;have Nm := Za Tr;clear Wh Tr hb;go_wp2_with fail;refine (Tx.o _).mono ?_;rintro e w' ⟨rfl, rfl⟩;go_wp2_with fail;refine (Nm.o _).mono ?_
       rintro e w' ⟨rfl, rfl⟩)
    | skip
    cases hq : Pi (S.extract 0 r).data.toList with
    | none =>
     have e1 := U2.o;rw [hq] at e1;have Qi := HPC.o;rw [hq] at Qi;have HP1 := Za Qi;clear U2 hq HPC Qi;go_wp2_with fail;refine (HP1.o _).mono ?_;rintro e w' ⟨rfl, rfl⟩;simp only [Fz, Option.getD_none, Option.isSome_none];go_wp2;rw [e1];refine bodyPost_ret (G1 rfl _ rfl (xL w _) underlying81 G4) rfl ?_;exact ⟨Zq w _, by decide, rfl⟩
    | some v =>
     have e1 := U2.o;rw [hq] at e1;have Qi := HPC.o;rw [hq] at Qi;have HP1 := Za Qi;clear U2 hq HPC Qi;go_wp2_with fail;refine (HP1.o _).mono ?_;rintro e w' ⟨rfl, rfl⟩;simp only [Fz, Option.getD_some, Option.isSome_some];go_wp2;rw [e1];refine bodyPost_ret (G1 rfl _ rfl (xL w _) underlying81 G4) rfl ?_;exact ⟨Zq w _, r, hgt, U8, rfl, rfl⟩
theorem rC (S : ByteArray) (h0 : 0 < S.size) (hS : S.size <= 65536) (hl : V2 S[0] = false) (hd : Y9 S[0] = false) (hq : S[0] = 34) (w : World) : Calls prog 75 #[.string S] w (Er S w (V4 S.data.toList)) := by
 have Vl := D6 (k := 0) h0
 rw [List.drop_zero, hl, hd, if_neg (by decide), if_neg (by decide), if_pos hq] at Vl
 have Nv := Du S[0]
 have Bl := Dg S[0]
 rw [hl] at Nv
 rw [hd] at Bl
 have N6 := Za Nv
 have Pw := Za Bl
 have hqc := fV S hS
 obtain ⟨R, hR⟩ := xE (V4 S.data.toList)
 rw [<- hR] at Vl ⊢
 have p1 : ((S[0].toNat : Int) == 34) = true := by rw [hq]; rfl
 have h0I : (0 : Int) < (S.size : Int) := by omega
 cases ho : Ur S 1 [] with
 | none =>
  rw [ho] at hqc;rw [Nat.zero_add, ho] at Vl;subst Vl;have HQC := Za hqc;clear Nv Bl hl hd hq hR hqc ho;go_enter func75, ntmps75;go_wp2_with fail;refine (N6.o _).mono ?_;rintro e w' ⟨rfl, rfl⟩;go_wp2_with fail;refine (Pw.o _).mono ?_;rintro e w' ⟨rfl, rfl⟩;go_wp2_with fail;refine (HQC.o _).mono ?_;rintro e w' ⟨hq, rfl⟩;simp only [xJ] at hq;subst hq;go_wp2;refine bodyPost_ret (G1 rfl _ rfl (xL w _) underlying81 G4) rfl ?_
  exact ⟨Zq w _, by decide, rfl⟩
 | some sr =>
  obtain ⟨said, rest⟩ := sr;rw [ho] at hqc;rw [Nat.zero_add, ho] at Vl
  have hrd2 : R = if 256 < said.length then Rd.bad 2 else Rd.tok 4 said rest := Vl
  have HQC := Za hqc;have U2 := Za hrd2;clear Nv Bl hl hd hq hR hqc ho Vl hrd2;go_enter func75, ntmps75;go_wp2_with fail;refine (N6.o _).mono ?_;rintro e w' ⟨rfl, rfl⟩;go_wp2_with fail;refine (Pw.o _).mono ?_;rintro e w' ⟨rfl, rfl⟩;go_wp2_with fail;refine (HQC.o _).mono ?_;rintro e w' ⟨hq, rfl⟩;obtain ⟨m, B6, hm2, H9, rfl⟩ := hq
  have m0 : ((m : Int) == 0) = false := by simp; omega
  obtain ⟨T, hT⟩ : ∃ T : ByteArray, T = ⟨said.toArray⟩ := ⟨_, rfl⟩
  have hTs : T.size = said.length := by rw [hT, yI]
  rw [<- hT];have HTT := Za hT;have Sf := Za H9;clear hT H9;by_cases h256 : 256 < said.length
  ·have e1 := U2.o
   rw [if_pos h256] at e1;subst e1
   have h256I : (256 : Int) < (T.size : Int) := by omega
   clear hTs U2;go_wp2;refine bodyPost_ret (G1 rfl _ rfl (xL w _) underlying81 G4) rfl ?_;exact ⟨Zq w _, by decide, rfl⟩
  ·have e1 := U2.o
   rw [if_neg h256] at e1;subst e1
   have h256I : ¬ (256 : Int) < (T.size : Int) := by omega
   clear hTs U2;go_wp2;refine bodyPost_ret (G1 rfl _ rfl (xL w _) underlying81 G4) rfl ?_;exact ⟨Zq w _, m, by omega, hm2, Sf.o, by rw [HTT.o]; rfl⟩
theorem rB (S : ByteArray) (h0 : 0 < S.size) (hS : S.size <= 65536) (hl : V2 S[0] = false) (hd : Y9 S[0] = false) (hq : ¬ S[0] = 34) (w : World) : Calls prog 75 #[.string S] w (Er S w (V4 S.data.toList)) := by
 have Vl := D6 (k := 0) h0
 rw [List.drop_zero, hl, hd, if_neg (by decide), if_neg (by decide), if_neg hq] at Vl
 have Nv := Du S[0]
 have Bl := Dg S[0]
 rw [hl] at Nv
 rw [hd] at Bl
 have N6 := Za Nv
 have Pw := Za Bl
 have Yv := sW S h0 hS
 have hsl := Oh S.data.toList
 rw [Xw] at hsl
 obtain ⟨R, hR⟩ := xE (V4 S.data.toList)
 rw [<- hR] at Vl ⊢
 have p1 : ((S[0].toNat : Int) == 34) = false := by
  rw [beq_eq_false_iff_ne];intro e;exact hq (UInt8.toNat_inj.1 (by show S[0].toNat = 34; omega))
 have h0I : (0 : Int) < (S.size : Int) := by omega
 obtain ⟨n, hn⟩ := xE (V5 S.data.toList)
 rw [<- hn] at Yv hsl Vl
 have HSC := Za Yv
 have U2 := Za Vl
 have nI : (n : Int) <= (S.size : Int) := by omega
 clear Nv Bl hl hd hq hR Yv Vl hn
 go_enter func75, ntmps75
 go_wp2_with fail
 refine (N6.o _).mono ?_
 rintro e w' ⟨rfl, rfl⟩
 go_wp2_with fail
 refine (Pw.o _).mono ?_
 rintro e w' ⟨rfl, rfl⟩
 go_wp2_with fail
 refine (HSC.o _).mono ?_
 rintro e w2 ⟨rfl, Z0⟩
 have Ww := pO Z0
 have HTB := Za Ww
 have c0 := Ww.c0
 have c1 := Ww.c1
 have c2 := Ww.c2
 have c3 := Ww.c3
 have f0 := Ww.fz 0
 have f1 := Ww.fz 1
 have f2 := Ww.fz 2
 have f3 := Ww.fz 3
 have Yx := Za (Zx (Zq w _) Z0)
 clear Ww Z0
 by_cases hz : n = 0
 ·have e1 := U2.o
  rw [if_pos hz] at e1;subst e1
  have z1 : ((n : Int) == 0) = true := by rw [hz]; rfl
  clear U2 hz;go_wp2;refine bodyPost_ret (G1 rfl _ rfl (HTB.o.set _ _ _ _) underlying81 G4) rfl ?_;exact ⟨Gn Yx.o _ _ _ _, by decide, rfl⟩
 ·have e1 := U2.o
  rw [if_neg hz, Nat.zero_add] at e1;subst e1
  have z1 : ((n : Int) == 0) = false := by simp; omega
  have hn0 : 0 < n := by omega
  clear U2 hz;go_wp2;refine bodyPost_ret (G1 rfl _ rfl (HTB.o.set _ _ _ _) underlying81 G4) rfl ?_;refine ⟨Gn Yx.o _ _ _ _, n, hn0, hsl, rfl, ?_⟩;rw [Dh, List.drop_zero, Nat.sub_zero];rfl
theorem aZ (S : ByteArray) (h0 : 0 < S.size) (hS : S.size <= 65536) (w : World) : Calls prog 75 #[.string S] w (Er S w (V4 S.data.toList)) := by
 cases hl : V2 S[0]
 ·cases hd : Y9 S[0]
  ·by_cases hq : S[0] = 34
   ·exact rC S h0 hS hl hd hq w
   ·exact rB S h0 hS hl hd hq w
  ·exact a8 S h0 hS hd w
 ·exact rA S h0 hS hl w
end Go.Proofs.YtfoejkhfdiodhaaGreatDoor.Lx
namespace Go.Proofs.YtfoejkhfdiodhaaGreatDoor.Lx
open Go.Proofs.Tryz
/-! What a token is. -/
def Ec (p : Nat × Nat) (b : UInt8) : Nat × Nat := if b = 10 then (p.1 + 1, 1) else (p.1, p.2 + 1)
def Kl (c : List UInt8) (p : Nat × Nat) : Nat × Nat := c.foldl Ec p
theorem tX (c d : List UInt8) (p : Nat × Nat) : Kl (c ++ d) p = Kl d (Kl c p) := List.foldl_append ..
end Go.Proofs.YtfoejkhfdiodhaaGreatDoor.Lx
namespace Go.Proofs.YtfoejkhfdiodhaaGreatDoor.Lx
open Go.Proofs.Tryz
open Go.RowKit
def Cn (l : List UInt8) (n : Nat) : Prop := n <= l.length /\ ∀ p : Nat × Nat, Vg false l p.1 p.2 = (l.drop n, Kl (l.take n) p)
def Ln (c : Bool) (S : ByteArray) (i : Nat) : Prop := ∀ p : Nat × Nat, Vg false S.data.toList p.1 p.2 = Vg c (S.data.toList.drop i) (Kl (S.data.toList.take i) p).1 (Kl (S.data.toList.take i) p).2
theorem tY {S : ByteArray} {i : Nat} (hi : i < S.size) (p : Nat × Nat) : Kl (S.data.toList.take (i + 1)) p = Ec (Kl (S.data.toList.take i) p) S[i] := by
 have h : i < S.data.toList.length := by rw [Xw]; exact hi
 rw [List.take_succ_eq_append_getElem h, tX]
 rfl
section
variable {S : ByteArray} {i : Nat}
theorem jJ : Ln false S 0 := fun p => by simp [Kl]
theorem jI (h : Ln false S i) (hi : i < S.size) (hb : S[i].toNat = 35) : Ln true S i := fun p => by
 have e : S[i] = 35 := UInt8.toNat_inj.1 hb
 rw [h p, Va S i hi, e]
 simp [Vg]
theorem mid_on (h : Ln true S i) (hi : i < S.size) (hb : S[i].toNat ≠ 10) : Ln true S (i + 1) := fun p => by
 have e : ¬ S[i] = 10 := fun e => hb (by rw [e]; rfl)
 rw [h p, tY hi, Va S i hi, Vg, if_neg e, Ec, if_neg e]
theorem jG (h : Ln true S i) (hi : i < S.size) (hb : S[i].toNat = 10) : Ln false S i := fun p => by
 have e : S[i] = 10 := UInt8.toNat_inj.1 hb
 rw [h p, Va S i hi, e]
 simp [Vg]
theorem jH (h : Ln true S i) (hi : ¬ i < S.size) : Ln false S i := fun p => by
 rw [h p, List.drop_eq_nil_of_le (by rw [Xw]; omega)]
 simp [Vg]
theorem jE (h : Ln false S i) (hi : i < S.size) (hb : S[i].toNat = 32 ∨ S[i].toNat = 9 ∨ S[i].toNat = 10 ∨ S[i].toNat = 13) : Ln false S (i + 1) := fun p => by
 rw [h p, tY hi, Va S i hi, Vg, Ec]
 by_cases e : S[i] = 10
 ·rw [if_pos e, if_pos e]
 ·have e2 : S[i] = 32 ∨ S[i] = 9 ∨ S[i] = 13 := by
   rcases hb with hb | hb | hb | hb
   ·exact .inl (UInt8.toNat_inj.1 hb)
   ·exact .inr (.inl (UInt8.toNat_inj.1 hb))
   ·exact absurd (UInt8.toNat_inj.1 hb) e
   ·exact .inr (.inr (UInt8.toNat_inj.1 hb))
  rw [if_neg e, if_neg e, if_pos e2]
theorem jK (h : Ln false S i) (hi : i < S.size) (hb : S[i].toNat ≠ 10 /\ S[i].toNat ≠ 32 /\ S[i].toNat ≠ 9 /\ S[i].toNat ≠ 13 /\ S[i].toNat ≠ 35) : Cn S.data.toList i := by
 have f : ∀ n : UInt8, S[i].toNat ≠ n.toNat -> ¬ S[i] = n := fun n hn e => hn (by rw [e])
 refine ⟨by rw [Xw]; omega, fun p => ?_⟩
 rw [h p, Va S i hi, Vg, if_neg (f 10 hb.1), if_neg, if_neg (f 35 hb.2.2.2.2)]
 rintro (e | e | e)
 ·exact f 32 hb.2.1 e
 ·exact f 9 hb.2.2.1 e
 ·exact f 13 hb.2.2.2.1 e
theorem jF (h : Ln false S i) (hi : ¬ i < S.size) (U8 : i <= S.size) : Cn S.data.toList i := by
 refine ⟨by rw [Xw]; omega, fun p => ?_⟩
 rw [h p, List.drop_eq_nil_of_le (by rw [Xw]; omega)]
 simp [Vg]
end
theorem bE (S : ByteArray) (hS : S.size <= 65536) (w : World) : Calls prog 74 #[.string S] w fun e w' => (∃ n : Nat, e = .returned (.int .i64 n) /\ Cn S.data.toList n) /\ w' = w := by
 go_enter func74, ntmps74
 go_wp2
 go_loop [3] (fun i => ∃ k : Nat, k <= S.size /\ i = .int .i64 k /\ xQ (Ln false S k)) (fun i => S.size - (intOf i).toNat)
 case atStart => exact ⟨0, xZ _, rfl, jJ⟩
 case round =>
  obtain ⟨k, hk, rfl, hm⟩ := hrel;by_cases Zo : k < S.size
  ·have Dk : (k : Int) < (S.size : Int) := by omega
   by_cases b1 : S[k].toNat = 35
   ·have p1 : ((S[k].toNat : Int) == 35) = true := by simp; omega
    have B6 := Za (jI hm.o Zo b1);have Yl := Za b1;clear b1;go_wp2
    go_loop [3] (fun i => ∃ m : Nat, k <= m /\ m <= S.size /\ i = .int .i64 m /\ xQ (Ln true S m)) (fun i => S.size - (intOf i).toNat)
    case atStart => exact ⟨k, xR, hk, rfl, B6⟩
    case round =>
     obtain ⟨m, hkm, hmS, rfl, hmm⟩ := hrel;by_cases hltm : m < S.size
     ·have hltmI : (m : Int) < (S.size : Int) := by omega
      by_cases b2 : S[m].toNat = 10
      ·have p2 : ((S[m].toNat : Int) != 10) = false := by simp; omega
       have hm2 := Za (jG hmm.o hltm b2)
       have hkm2 : k < m := by
        by_cases e : m = k
        ·subst e
         have := Yl.o;omega
        ·omega
       clear b2;go_wp2
       go_round
       case rel => exact ⟨m, hmS, rfl, hm2⟩
       case measure => simp [intOf]; omega
      ·have p2 : ((S[m].toNat : Int) != 10) = true := by simp; omega
       have hm2 := Za (mid_on hmm.o hltm b2);clear b2;go_wp2
       go_round
       case rel => exact ⟨m + 1, by omega, by omega, by go_num, hm2⟩
       case measure => simp [intOf]; omega
     ·have hltmI : ¬ (m : Int) < (S.size : Int) := by omega
      have hm2 := Za (jH hmm.o hltm);go_wp2
      go_round
      case rel => exact ⟨m, hmS, rfl, hm2⟩
      case measure => simp [intOf]; omega
   have n1 : ((S[k].toNat : Int) == 35) = false := by simp; omega
   by_cases b2 : S[k].toNat = 32 ∨ S[k].toNat = 9 ∨ S[k].toNat = 10 ∨ S[k].toNat = 13
   ·have hm2 := Za (jE hm.o Zo b2)
    have b2' : ((S[k].toNat : Int) != 32) = false ∨ (((S[k].toNat : Int) != 32) = true /\ ((S[k].toNat : Int) != 9) = false) ∨ (((S[k].toNat : Int) != 32) = true /\ ((S[k].toNat : Int) != 9) = true /\ ((S[k].toNat : Int) != 10) = false) ∨
      (((S[k].toNat : Int) != 32) = true /\ ((S[k].toNat : Int) != 9) = true /\ ((S[k].toNat : Int) != 10) = true /\ ((S[k].toNat : Int) != 13) = false) := by simp; omega
    clear b2 b1;rcases b2' with p1 | ⟨p1, p2⟩ | ⟨p1, p2, p3⟩ | ⟨p1, p2, p3, p4⟩
    all_goals
     go_wp2
     go_round
     case rel => exact ⟨k + 1, by omega, by go_num, hm2⟩
     case measure => simp [intOf]; omega
   ·have Zb := Za (jK hm.o Zo ⟨by omega, by omega, by omega, by omega, b1⟩)
    have p1 : ((S[k].toNat : Int) != 32) = true := by simp; omega
    have p2 : ((S[k].toNat : Int) != 9) = true := by simp; omega
    have p3 : ((S[k].toNat : Int) != 10) = true := by simp; omega
    have p4 : ((S[k].toNat : Int) != 13) = true := by simp; omega
    clear b1 b2;go_wp2;go_ret;exact ⟨⟨k, rfl, Zb.o⟩, rfl⟩
  ·have Zb := Za (jF hm.o Zo hk)
   go_wp2;go_ret;exact ⟨⟨k, rfl, Zb.o⟩, rfl⟩
def Ej (R : Lx) (rest : List UInt8) (p : Nat × Nat) (acc : List Tok) : Prop := ∃ r q, Vg false rest p.1 p.2 = (r, q) /\ J2 R r q.1 q.2 acc
theorem kV {l : List UInt8} (hl : l.length <= 65536) : Ej (Tk l) l (1, 1) [] :=
 ⟨(Vg false l 1 1).1, (Vg false l 1 1).2, rfl, uJ hl rfl⟩
theorem kU {R : Lx} {rest : List UInt8} {p : Nat × Nat} {acc : List Tok} {n : Nat} (h : Ej R rest p acc) (hb : Cn rest n) : J2 R (rest.drop n) (Kl (rest.take n) p).1 (Kl (rest.take n) p).2 acc := by
 obtain ⟨r, q, hs, Zd⟩ := h
 rw [hb.2 p] at hs
 injection hs with h1 h2
 rw [h1, h2]
 exact Zd
theorem kW {R : Lx} {rest t r2 : List UInt8} {li co : Nat} {acc : List Tok} {k : Int} (h : J2 R rest li co acc) (hr : rest ≠ []) (he : V4 rest = .tok k t r2) (hn : acc.length ≠ 8192) : Ej R r2 (li, co + (rest.length - r2.length)) (acc ++ [⟨k, t, li, co⟩]) :=
 ⟨_, _, rfl, uK h hr he hn rfl⟩
theorem Ib (S : ByteArray) (k : Nat) : (S.extract k S.size).data.toList = S.data.toList.drop k := by
 rw [Dh]
 exact List.take_of_length_le (by rw [List.length_drop, Xw]; omega)
theorem Ic (S : ByteArray) (k : Nat) : (S.extract k S.size).size = S.size - k := by
 rw [<- Xw, Ib, List.length_drop, Xw]
theorem fF {S : ByteArray} {k m : Nat} (hm : k + m < S.size) (p : Nat × Nat) : Kl ((S.data.toList.drop k).take (m + 1)) p = Ec (Kl ((S.data.toList.drop k).take m) p) S[k + m] := by
 have h : m < (S.data.toList.drop k).length := by rw [List.length_drop, Xw]; omega
 rw [List.take_succ_eq_append_getElem h, tX]
 have e : (S.data.toList.drop k)[m] = S[k + m] := by
  rw [List.getElem_drop];rfl
 rw [e]
 rfl
structure F6 (w wr : World) (v : Value) (acc : List Tok) : Prop where
 dg : Bt wr w.heap.size 0 0 0
 bl : Below w.heap.size w wr
 ow : wr.ownsRow (w.heap.size + 1) 81 4 v acc.length (tokCells acc)
 sz : w.heap.size < wr.heap.size
section
variable {w wr wr' : World} {v : Value} {acc : List Tok}
theorem F6.next (h : F6 w wr v acc) (hb : Below wr.heap.size wr wr') : F6 w wr' v acc where
 dg := by
  unfold Bt;rw [hb.block _ h.sz];exact h.dg
 bl := h.bl.trans (hb.mono h.bl.size)
 ow := by
  obtain ⟨h1, h2⟩ := h.ow;refine ⟨h1, ?_⟩;rcases h2 with h2 | ⟨g, cap, cur, rfl, hg, hh, r⟩
  ·exact .inl h2
  ·refine .inr ⟨g, cap, cur, rfl, hg, ?_, r⟩
   rw [hb.block g (xB hh)];exact hh
 sz := xT h.sz hb.size
theorem F6.app (h : F6 w wr v acc) {ob : Obj} {v' : Value} {w1 : World} {t : Tok} (ho : w1.ownsRow (w.heap.size + 1) 81 4 v' (acc.length + 1) (tokCells acc ++ Tok.cells t)) (hg : (wr.alloc ob).grownBy w1 v.ownBlock) : F6 w w1 v' (acc ++ [t]) := by
 have hsz := h.sz
 refine ⟨?_, ?_, ?_, ?_⟩
 ·unfold Bt
  rw [hg.block _ (by simp; omega) (fun e => by have := (Gx h.ow _ e.symm).1; omega), xA hsz];exact h.dg
 ·refine (h.bl.alloc h.bl.size _).grown hg (by have := h.bl.size; simp; omega) fun j hj => ?_
  have := (Gx h.ow _ hj).1;omega
 ·rw [List.length_append, pN]
  exact ho
 ·have := hg.size
  simp at this;omega
end
theorem aY (W : World) (t : Tok) (ty : TypeId) {n : Nat} (hn : W.heap.size = n) : ∀ j u, (Tok.cells t)[j]? = some u -> (W.alloc (.cells #[.int .i64 t.kind, .string ⟨t.text.toArray⟩, .int .i64 t.line, .int .i64 t.col] ty)).cell? ((⟨n, 0, none⟩ : Addr).add j) = some u := by
 subst hn
 exact Oj W t ty
theorem kY (S : ByteArray) (hS : 65536 < S.size) (K7 : S.size <= 140737488351232) (w : World) :
  Calls prog 30 #[.string S] w (LexPost w (.bad 2 1 1)) := by
 go_enter func30, ntmps30
 go_wp2
 refine bodyPost_ret (results_tmp_cell rfl _ rfl (xL w _) underlying29 Df) rfl ?_
 exact ⟨(Below.refl _ w).alloc (xR) _, rfl⟩
theorem kZ (S : ByteArray) (hS : S.size <= 65536) (w : World) :
  Calls prog 30 #[.string S] w (LexPost w (Tk S.data.toList)) := by
 obtain ⟨R, hR⟩ := xE (Tk S.data.toList)
 rw [<- hR]
 have Zb : xQ (Ej R (S.data.toList.drop 0) (1, 1) []) := by
  rw [hR, List.drop_zero];exact kV (by rw [Xw]; exact hS)
 clear hR
 obtain ⟨i0, hi, Wp, Xy, Wr⟩ := info_parts vS
 have Ex : xQ (F6 w (w.alloc (.cells #[.int .i64 0, .int .i64 0, .int .i64 0, .int .i64 0] 29)) (.slice none 0 0) []) :=
  ⟨xL w _, Zq w _, World.ownsRow_nil _ _ _ _, by simp⟩
 go_enter func30, ntmps30
 go_wp2
 go_loopw [4, 5, 6, 7] (fun v a b c wr => ∃ (k li co : Nat) (acc : List Tok), xQ (F6 w wr v acc) /\ k <= S.size /\ li <= k + 1 /\ co <= k + 1 /\ acc.length <= 8192 /\ a = .int .i64 li /\ b = .int .i64 co /\ c = .int .i64 k /\ xQ (Ej R (S.data.toList.drop k) (li, co) acc)) (fun _ _ _ c _ => S.size - (intOf c).toNat)
 case atStart => exact ⟨0, 1, 1, [], Ex, xZ _, by omega, by omega, by simp, rfl, rfl, rfl, Zb⟩
 case round =>
  clear Ex Zb;obtain ⟨k, li, co, acc, Th, hk, B5, hcol, Na, rfl, rfl, rfl, hhd⟩ := hrel;obtain ⟨a, cap, rfl⟩ := zT Th.o.ow;have hbc := bE (S.extract k S.size) (by rw [Ic]; omega);rw [Ib] at hbc;have HBC := Za hbc
  have kI : (k : Int) <= (S.size : Int) := by omega
  clear hbc;go_wp2_with fail;refine (HBC.o _).mono ?_;rintro e w' ⟨⟨n, rfl, Z8⟩, rfl⟩;have Y0 := Z8.1;rw [List.length_drop, Xw] at Y0;have Jr := Za (kU hhd.o Z8);rw [List.drop_drop] at Jr;clear Z8 hhd HBC;go_wp2
  go_loop [5, 6, 9] (fun a b c => ∃ (m l2 c2 : Nat), m <= n /\ l2 <= k + m + 1 /\ c2 <= k + m + 1 /\ c = .int .i64 ((k + m : Nat) : Int) /\ a = .int .i64 l2 /\ b = .int .i64 c2 /\ xQ (Kl ((S.data.toList.drop k).take m) (li, co) = (l2, c2))) (fun _ _ c => k + n - (intOf c).toNat)
  case atStart => exact ⟨0, li, co, xZ _, by omega, by omega, rfl, rfl, rfl, rfl⟩
  case round =>
   obtain ⟨m, l2, c2, hm, V0, Ns, rfl, rfl, rfl, hpm⟩ := hrel;by_cases hmn : m < n
   ·have hkm : k + m < S.size := by omega
    have hI : (k : Int) + (m : Int) < (S.size : Int) := by omega
    have hJ : (k : Int) + (m : Int) < (k : Int) + (n : Int) := by omega
    have Ft := fF hkm (li, co);rw [hpm.o] at Ft;unfold Ec at Ft;simp only at Ft;by_cases h10 : S[k + m].toNat = 10
    ·have e10 : S[k + m] = 10 := UInt8.toNat_inj.1 h10
     rw [if_pos e10] at Ft
     have p10 : ((S[k + m].toNat : Int) == 10) = true := by simp; omega
     have Zu := Za Ft;clear Ft e10 h10;go_wp2;refine ⟨⟨m + 1, l2 + 1, 1, by omega, by omega, by omega, by go_num, by go_num, by go_num, Zu.o⟩, by simp [intOf]; omega⟩
    ·have e10 : ¬ S[k + m] = 10 := fun e => h10 (by rw [e]; rfl)
     rw [if_neg e10] at Ft
     have p10 : ((S[k + m].toNat : Int) == 10) = false := by simp; omega
     have Zu := Za Ft;clear Ft e10 h10;go_wp2;refine ⟨⟨m + 1, l2, c2 + 1, by omega, by omega, by omega, by go_num, by go_num, by go_num, Zu.o⟩, by simp [intOf]; omega⟩
   ·have hmn2 : m = n := by omega
    subst hmn2;rw [hpm.o] at Jr;have F8 : xQ (J2 R (S.data.toList.drop (k + m)) l2 c2 acc) := Jr.o
    have hJ : ¬ (k : Int) + (m : Int) < (k : Int) + (m : Int) := by omega
    clear hpm Jr;by_cases Zo : k + m < S.size
    ·have hI : ¬ (S.size : Int) <= (k : Int) + (m : Int) := by omega
     have hI2 : (k : Int) + (m : Int) <= (S.size : Int) := by omega
     have htc := aZ (S.extract (k + m) S.size) (by rw [Ic]; omega) (by rw [Ic]; omega);rw [Ib] at htc;have HTC := Za htc
     have Bu : xQ (S.data.toList.drop (k + m) ≠ []) := by
      rw [Va S (k + m) Zo];exact List.cons_ne_nil _ _
     clear htc;go_wp2_with fail;refine (HTC.o _).mono ?_;intro e w2 hp;have HP := Za hp;clear hp HTC
     cases Vl : V4 (S.data.toList.drop (k + m)) with
     | inl x =>
      have hp := HP.o;rw [Vl] at hp;obtain ⟨Z0, hx, rfl⟩ := hp;have S3 := uG F8.o Bu.o Vl;have Xm := Th.o.next (Zx Z0 (Zq w2 (.cells #[.int .i64 0, .string { data := #[] }, .int .i64 0, .int .i64 0] 81)));have Pf := Za Xm.dg;have Z8 := Za Xm.bl;have g0 := Xm.dg.c 0 (by omega);have g1 := Xm.dg.c 1 (by omega);have g2 := Xm.dg.c 2 (by omega);have g3 := Xm.dg.c 3 (by omega);simp only [List.getD_cons_zero, List.getD_cons_succ] at g0 g1 g2 g3
      have z0 := Xm.dg.fz 0;have z1 := Xm.dg.fz 1;have z2 := Xm.dg.fz 2;have z3 := Xm.dg.fz 3
      have x0 : (x == 0) = false := by simpa using hx
      have x1 : (x != 0) = true := by simpa using hx
      subst S3;clear Vl HP Z0 Xm F8 Bu hx;go_wp2;refine bodyPost_ret (results_tmp_cell rfl _ rfl (Pf.o.set _ _ _) underlying29 Df) rfl ?_;exact ⟨Gn Z8.o _ _ _ _, rfl⟩
     | inr q =>
      obtain ⟨kd, t, rest⟩ := q;have hp := HP.o;rw [Vl] at hp;obtain ⟨Z0, n2, hn0, hn2, H9, rfl⟩ := hp;rw [Ic] at hn2;rw [Ib, List.drop_drop] at H9;have Sf := Za H9;have U2 := Za Vl;have Yx := Za Z0;clear H9 Vl Z0 HP;by_cases Ab : acc.length = 8192
      ·have B6 : ((acc.length : Int) == 8192) = true := by simp; omega
       have S3 := uI F8.o Bu.o U2.o Ab;have Xm := Th.o.next (Zx Yx.o (Zq w2 (.cells #[.int .i64 kd, .string ⟨t.toArray⟩, .int .i64 0, .int .i64 0] 81)));have Pf := Za Xm.dg;have Z8 := Za Xm.bl;have g0 := Xm.dg.c 0 (by omega);have g1 := Xm.dg.c 1 (by omega);have g2 := Xm.dg.c 2 (by omega);have g3 := Xm.dg.c 3 (by omega);simp only [List.getD_cons_zero, List.getD_cons_succ] at g0 g1 g2 g3;have z0 := Xm.dg.fz 0
       have z1 := Xm.dg.fz 1;have z2 := Xm.dg.fz 2;have z3 := Xm.dg.fz 3;subst S3;clear Xm F8 Bu U2 Sf Ab;go_wp2;refine bodyPost_ret (results_tmp_cell rfl _ rfl (Pf.o.set _ _ _) underlying29 Df) rfl ?_;exact ⟨Gn Z8.o _ _ _ _, rfl⟩
      ·have B6 : ((acc.length : Int) == 8192) = false := by simp; omega
       have Xm := Za (Th.o.next (Zx Yx.o (Zq w2 (.cells #[.int .i64 kd, .string ⟨t.toArray⟩, .int .i64 l2, .int .i64 c2] 81))))
       go_wp2_with (at_builtin; refine wpList_append_own _ rfl (.tmp 76) (.tmp 78) 68 rfl (w.heap.size + 1) 81 i0 _ 4 40 underlying68 hi Wp Xy Wr rfl (by decide) _ _ _ rfl (Xm.o.ow.alloc _) ⟨_, 0, none⟩ 1 1 (Tok.cells ⟨kd, t, l2, c2⟩) rfl rfl (aY _ ⟨kd, t, l2, c2⟩ 81 (xS _ _)) (Ok _) (by unfold maxLen; omega) (by omega) (by have h1 := Xm.o.sz; rw [xS] at h1; rw [xS, xS]; omega) ?_)
       intro v' w3 Z1 Zy _
       have hal2 : acc.length + 1 <= 8192 := by omega
       have HCO3 := Za (Xm.o.app (t := ⟨kd, t, l2, c2⟩) Z1 Zy);have hhd := kW F8.o Bu.o U2.o Ab;rw [Sf.o, List.length_drop, List.length_drop, Xw, show S.size - (k + m) - (S.size - (k + m + n2)) = n2 from by omega] at hhd;have HHD := Za hhd;clear Z1 Zy hhd Xm F8 Bu U2 Sf Ab;go_wp2;refine ⟨⟨k + m + n2, l2, c2 + n2, acc ++ [⟨kd, t, l2, c2⟩], HCO3, by omega, by omega, by omega, by simp; omega, rfl, by go_num, by go_num, HHD⟩, by simp [intOf]; omega⟩
    ·have hnil : S.data.toList.drop (k + m) = [] := List.drop_eq_nil_of_le (by rw [Xw]; omega)
     have Nc := F8.o;rw [hnil] at Nc;have HEND := Za (uH Nc)
     have hI : (S.size : Int) <= (k : Int) + (m : Int) := by omega
     clear hnil Nc F8
     go_wp2_with (at_builtin; refine wpList_append_own _ rfl (.tmp 44) (.tmp 48) 68 rfl (w.heap.size + 1) 81 i0 _ 4 40 underlying68 hi Wp Xy Wr rfl (by decide) _ _ _ rfl (Th.o.ow.alloc _) ⟨_, 0, none⟩ 1 1 (Tok.cells ⟨0, [], l2, c2⟩) rfl rfl (Oj _ ⟨0, [], l2, c2⟩ 81) (Ok _) (by unfold maxLen; omega) (by omega) (by have := Th.o.sz; simp; omega) ?_)
     intro v' w3 Z1 Zy _;have U7 := Th.o.app (t := ⟨0, [], l2, c2⟩) Z1 Zy;have Pf := Za U7.dg;have Z8 := Za U7.bl
     obtain ⟨g, cap', rfl⟩ : ∃ g cap', v' = .slice (some ⟨g, 0, none⟩) (acc.length + 1) cap' := by
      rcases Z1.2 with ⟨_, h0⟩ | ⟨g, cap', cur, h1, _⟩
      ·omega
      ·exact ⟨g, cap', h1⟩
     have hgb := (Gx Z1 g rfl).1;have how := Za U7.ow;have g0 := U7.dg.c 0 (by omega);have g1 := U7.dg.c 1 (by omega);have g2 := U7.dg.c 2 (by omega);have g3 := U7.dg.c 3 (by omega);simp only [List.getD_cons_zero, List.getD_cons_succ] at g0 g1 g2 g3;have z0 := U7.dg.fz 0;have z1 := U7.dg.fz 1;have z2 := U7.dg.fz 2;have z3 := U7.dg.fz 3;clear Z1 Zy U7;go_wp2;refine bodyPost_ret (results_tmp_cell rfl _ rfl (Pf.o.set _ _ _) underlying29 Df) rfl ?_
     rw [HEND.o];refine ⟨Gn Z8.o _ _ _ _, g, cap', ?_, ?_⟩
     ·simp [diagA]
     ·have ho := tO how.o (show w.heap.size <= w.heap.size + 1 by omega)
      rw [List.length_append] at ho ⊢
      have Z3 : ∀ o, (Value.slice (some ⟨g, 0, none⟩) (acc.length + 1) cap').ownBlock ≠ some (⟨w.heap.size, o, none⟩ : Addr).block := fun o e => by
       simp [Value.ownBlock] at e;omega
      exact ownsRow_setCell_other (ownsRow_setCell_other (ownsRow_setCell_other (ownsRow_setCell_other ho (Z3 0) _) (Z3 1) _) (Z3 2) _) (Z3 3) _
theorem lexR_c (S : ByteArray) (hS : S.size <= 140737488351232) (w : World) : Calls prog 30 #[.string S] w (LexPost w (Tk S.data.toList)) := by
 by_cases h : S.size <= 65536
 ·exact kZ S h w
 ·rw [Tk, if_pos (by rw [Xw]; omega)]
  exact kY S (by omega) hS w
end Go.Proofs.YtfoejkhfdiodhaaGreatDoor.Lx
