/- Part. -/
import Derived.Test.YtoppemkjhhlegaaGreatDoorPart23
set_option maxRecDepth 100000
set_option maxHeartbeats 4000000
namespace Go.Proofs.YtoppemkjhhlegaaGreatDoor
open Go.Proofs.Tryz
namespace Lx
open Go.RowKit
theorem zkz (w:World):Calls prog 53 #[] w fun e w'=>e = .returned (lP w.heap.size 25 25)/\Below w.heap.size w w'/\∀ i,i<25->w'.cell? (aP w.heap.size i)=some (.string (wordB i)):=by
 go_enter func53,ntmps53
 go_wp2
 go_ret
 refine⟨rfl,Zq w _,?_⟩
 intro i j
 rw [cell_of_row _ _ i _ _ (0,0) (xL w _)]
 match i,j with
 | 0,_=>rfl
 | 1,_=>rfl
 | 2,_=>rfl
 | 3,_=>rfl
 | 4,_=>rfl
 | 5,_=>rfl
 | 6,_=>rfl
 | 7,_=>rfl
 | 8,_=>rfl
 | 9,_=>rfl
 | 10,_=>rfl
 | 11,_=>rfl
 | 12,_=>rfl
 | 13,_=>rfl
 | 14,_=>rfl
 | 15,_=>rfl
 | 16,_=>rfl
 | 17,_=>rfl
 | 18,_=>rfl
 | 19,_=>rfl
 | 20,_=>rfl
 | 21,_=>rfl
 | 22,_=>rfl
 | 23,_=>rfl
 | 24,_=>rfl
 | n+25,h=>exact absurd h (by omega)
theorem cK (s:bA) (w:World):Calls prog 41 #[.string s] w fun e w'=>e = .returned (.bool (P5.contains s.data.toList))/\Below w.heap.size w w':=by
 obtain⟨b,A⟩:=xE (P5.contains s.data.toList)
 rw [<- A]
 have H:=Za A
 clear A
 go_enter func41,ntmps41
 go_wp2_with fail
 refine(zkz _).mono ?_
 rintro e w1 ⟨rfl,T,M⟩
 have O:=Za T
 have Y:=Za M
 clear T M
 go_wp2
 go_loop [4] (fun i=>∃ k:Nat,k<=25/\i=iP k/\xQ (qZ s k)) (fun i=>25 - (intOf i).toNat)
 case atStart=>exact⟨0,by omega,rfl,fun i N=>by omega⟩
 case round =>
  obtain⟨k,hk,rfl,I⟩:=hrel;by_cases F:k<25
  ·have j:=Y.o k F
   obtain⟨t,C⟩:=xE (wordB k);rw [<- C] at j;have J:=Za C;clear C
   have hkI:(k:Int)<25:=by omega
   cases hq:(t.toList == s.toList)
   ·have V:xQ (qZ s (k+1)):=fun i N=>by
     by_cases z:i=k
     ·subst z; rw [<- J.o]; exact(uW hq).symm
     ·exact I.o i (by omega)
    go_wp2
    go_round
    case rel=>exact⟨k+1,by omega,by go_num,V⟩
    case measure=>simp [intOf]; omega
   ·have e:b=true:=by
     rw [H.o];exact(mF s).2 ⟨k,F,(Cs.1 hq).symm.trans J.o⟩
    subst e;go_wp2;go_ret;exact⟨rfl,O.o⟩
  ·have e:b=false:=by
    rw [H.o,Bool.eq_false_iff];intro h;obtain⟨i,N,e⟩:=(mF s).1 h;exact I.o i (by omega) e
   subst e;go_wp2;go_ret;exact⟨rfl,O.o⟩
theorem uB {b:UInt8} (h:Xh b=true):Tw b=false:=by
 unfold Xh at h
 unfold Tw
 simp at h ⊢
 omega
def qX (S:bA) (k:Nat):Prop:=∀ i (h:i<S.size),i<k->Xm S[i]=true
theorem nm_all {S:bA} (h:qX S S.size):S.data.toList.all Xm=true:=by
 rw [List.all_eq_true]
 intro b A
 obtain⟨i,z,e⟩:=List.mem_iff_getElem.1 A
 have j:i<S.size:=by rw [<- Wz]; exact z
 have:=h i j j
 rw [<- e]
 exact this
theorem nm_not {S:bA} {k:Nat} (z:k<S.size) (h:Xm S[k]=false):S.data.toList.all Xm=false:=by
 rw [Bool.eq_false_iff]
 intro ha
 rw [List.all_eq_true] at ha
 have:=ha S[k] (by
  have j:k<S.data.toList.length:=by rw [Wz]; exact z
  exact List.getElem_mem j)
 rw [h] at this
 cases this
theorem nameR_c (S:bA) (hS:S.size<=140737488351232) (w:World):Calls prog 28 #[.string S] w fun e w'=>e = .returned (.bool (Gj S.data.toList))/\Below w.heap.size w w':=by
 have z:=cK S
 by_cases O:S.size=0
 ·have z1:((S.size:Int) == 0)=true:=by rw [beq_iff_eq]; omega
  rw [dE O];generalize P5.contains S.data.toList=b at z;have C:=Za z;clear z O;go_enter func28,h;go_wp2_with fail;refine(C.o _).mono ?_;rintro e w1 ⟨rfl,j⟩;have A:=Za j;clear j;go_wp2;go_ret;exact⟨rfl,A.o⟩
 have T:0<S.size:=by omega
 have z1:((S.size:Int) == 0)=false:=by rw [beq_eq_false_iff_ne]; omega
 rw [dD T]
 by_cases hl:32<S.size
 ·have J:decide (S.size<=32)=false:=by simp; omega
  rw [J];simp only [Bool.false_and];generalize P5.contains S.data.toList=b at z;have C:=Za z;clear z O J
  have Y:(32:Int)<(S.size:Int):=by omega
  go_enter func28,h;go_wp2_with fail;refine(C.o _).mono ?_;rintro e w1 ⟨rfl,j⟩;have A:=Za j;clear j;go_wp2;go_ret;exact⟨rfl,A.o⟩
 have J:decide (S.size<=32)=true:=by simp; omega
 rw [J]
 have Y:¬ (32:Int)<(S.size:Int):=by omega
 have h0I:(0:Int)<(S.size:Int):=by omega
 clear J O
 cases hq:P5.contains S.data.toList
 case true =>
  rw [hq] at z;have C:=Za z;clear z hq;simp only [Bool.not_true,Bool.and_false];go_enter func28,h;go_wp2_with fail;refine(C.o _).mono ?_;rintro e w1 ⟨rfl,j⟩;have A:=Za j;clear j;go_wp2;go_ret;exact⟨rfl,A.o⟩
 case false =>
  rw [hq] at z;have C:=Za z;clear z hq;have I:=Rq S[0];cases Mh:Xh S[0]
  case true =>
   rw [Mh] at I;rw [uB Mh];have V:=Za I;clear I Mh;simp only [Bool.false_and,Bool.and_false];go_enter func28,h;go_wp2_with fail;refine(C.o _).mono ?_;rintro e w1 ⟨rfl,j⟩;have A:=Za j;clear j;go_wp2_with fail;refine(V.o _).mono ?_;rintro e w' ⟨rfl,rfl⟩;go_wp2;go_ret;exact⟨rfl,A.o⟩
  case false =>
   rw [Mh] at I;have V:=Za I;have M8:=Za Mh;clear I Mh;obtain⟨r,hr⟩:=xE ((true && Tw S[0] && S.data.toList.all Xm && !false));rw [<- hr];have HR:=Za hr;clear hr;go_enter func28,h;go_wp2_with fail;refine(C.o _).mono ?_;rintro e w1 ⟨rfl,j⟩;have A:=Za j;clear j;go_wp2_with fail;refine(V.o _).mono ?_;rintro e w' ⟨rfl,rfl⟩;go_wp2
   go_loop [4] (fun i=>∃ k:Nat,k<=S.size/\i=iP k/\xQ (qX S k)) (fun i=>S.size - (intOf i).toNat)
   case atStart=>exact⟨0,xZ _,rfl,fun i _ M=>by omega⟩
   case round =>
    obtain⟨k,hk,rfl,Mj⟩:=hrel;by_cases Zt:k<S.size
    ·have Cd:(k:Int)<(S.size:Int):=by omega
     have H:=Cl S[k];have F:=Rq S[k]
     cases ha:Tw S[k] <;> cases hb:Xh S[k]
     case false.false =>
      rw [ha] at H;rw [hb] at F
      have e:r=false:=by
       rw [HR.o,nm_not Zt (by simp [Xm,ha,hb])];simp
      have Mz:=Za H;have Jq:=Za F;clear H F ha hb;subst e;go_wp2_with fail;refine(Mz.o _).mono ?_;rintro e w' ⟨rfl,rfl⟩;go_wp2_with fail;refine(Jq.o _).mono ?_;rintro e w' ⟨rfl,rfl⟩;go_wp2;go_ret;exact⟨rfl,A.o⟩
     all_goals
      rw [ha] at H;rw [hb] at F
      have U6:Xm S[k]=true:=by simp [Xm,ha,hb]
      have N:xQ (qX S (k+1)):=fun i M hik=>by
       by_cases e:i=k
       ·subst e; exact U6
       ·exact Mj.o i M (by omega)
      have Mz:=Za H;have Jq:=Za F;clear H F ha hb U6;go_wp2_with fail;refine(Mz.o _).mono ?_;rintro e w' ⟨rfl,rfl⟩;go_wp2_with fail;refine(Jq.o _).mono ?_;rintro e w' ⟨rfl,rfl⟩;go_wp2
      go_round
      case rel=>exact⟨k+1,by omega,by go_num,N⟩
      case measure=>simp [intOf]; omega
    ·have e:r=true:=by
      have Kh:qX S S.size:=fun i M _=>Mj.o i M (by omega)
      have Z:=Kh 0 T T;have h2:=M8.o;unfold Xm at Z;rw [h2,Bool.or_false] at Z;rw [HR.o,nm_all Kh,Z];rfl
     subst e;go_wp2;go_ret;exact⟨rfl,A.o⟩
def zW (i:Nat):ByteArray:=⟨#[(Gq.getD i (0,0)).1,(Gq.getD i (0,0)).2]⟩
theorem jC {S:bA} (h:2<=S.size):S.extract 0 2=⟨#[S[0],S[1]]⟩:=by
 rw [Il,List.drop_zero]
 have e:=Ue S 0 (by omega)
 rw [List.drop_zero,Ue S 1 (by omega)] at e
 rw [e]
 rfl
theorem fT {S:bA} (h:2<=S.size):S.data.toList=S[0] :: S[1] :: S.data.toList.drop 2:=by
 have e:=Ue S 0 (by omega)
 rw [List.drop_zero,Ue S 1 (by omega)] at e
 exact e
theorem eC (a b:UInt8):Gq.contains (a,b)=true↔∃ i,i<8/\(⟨#[a,b]⟩:bA)=zW i:=by
 rw [List.contains_iff_mem]
 constructor
 ·intro h
  obtain⟨i,j,e⟩:=List.mem_iff_getElem.1 h;refine⟨i,j,?_⟩;unfold zW;rw [List.getD_eq_getElem?_getD,List.getElem?_eq_getElem j,Option.getD_some,e]
 ·rintro⟨i,j,e⟩
  unfold zW at e;rw [List.getD_eq_getElem?_getD,List.getElem?_eq_getElem (show i<Gq.length from j),Option.getD_some] at e;simp only [ByteArray.mk.injEq,Array.mk.injEq,List.cons.injEq,and_true] at e
  have:(a,b)=Gq[i]'hi:=by rw [e.1,e.2]; rfl
  rw [this];exact List.getElem_mem ..
def qY (S:bA) (k:Nat):Prop:=∀ i,i<k->¬ (2<=S.size/\S.extract 0 2=zW i)
theorem zih {S:bA} {i:Nat} (h:2<=S.size) (j:i<8) (e:S.extract 0 2=zW i):U9 S.data.toList=2:=by
 rw [jC h] at e
 rw [fT h,U9,if_pos ((eC _ _).2 ⟨i,j,e⟩)]
theorem zig {S:bA} (h:0<S.size) (z:qY S 8):U9 S.data.toList=if A9.contains S[0] then 1 else 0:=by
 by_cases j:2<=S.size
 ·rw [fT j,U9,if_neg]
  rw [eC];rintro⟨i,A,e⟩;exact z i A ⟨j,by rw [jC j]; exact e⟩
 ·have e:=Ue S 0 h
  rw [List.drop_zero,List.drop_eq_nil_of_le (by rw [Wz]; omega)] at e;rw [e,U9]
def nT (O:bA) (b:UInt8) (k:Nat):Prop:=∀ i (h:i<O.size),i<k->b≠O[i]
theorem one_no {O:bA} {b:UInt8} (C:O.data.toList=A9) (h:nT O b O.size):A9.contains b=false:=by
 rw [Bool.eq_false_iff]
 intro z
 rw [List.contains_iff_mem,<- C] at z
 obtain⟨i,A,e⟩:=List.mem_iff_getElem.1 z
 have j:i<O.size:=by rw [<- Wz]; exact A
 exact h i j j e.symm
theorem zeu {O:bA} {b:UInt8} {i:Nat} (z:O.data.toList=A9) (j:i<O.size) (e:b=O[i]):A9.contains b=true:=by
 rw [List.contains_iff_mem,<- z,e]
 have h:i<O.data.toList.length:=by rw [Wz]; exact j
 exact List.getElem_mem h
theorem E4 {B:Nat} {a w:World} (h:Below B a w) (n:Nat):Below B a (w.drewN n):=⟨h.os,h.tape,h.output,h.size,h.block⟩
theorem zjv (w:World) (h:TypeId):∀ i,i<8->(w.alloc (.cells #[.string { data:=#[45,62] },.string { data:=#[61,62] },.string { data:=#[60,58] },.string { data:=#[60,60] },.string { data:=#[60,61] },.string { data:=#[62,62] },.string { data:=#[61,61] },.string { data:=#[43,43] }] h)).cell? (aP w.heap.size i)=some (.string (zW i)):=by
 intro i j
 rw [cell_of_row _ _ i _ h (0,0) (xL w _)]
 match i,j with
 | 0,_=>rfl
 | 1,_=>rfl
 | 2,_=>rfl
 | 3,_=>rfl
 | 4,_=>rfl
 | 5,_=>rfl
 | 6,_=>rfl
 | 7,_=>rfl
theorem zij (S:bA) (h0:0<S.size) (hS:S.size<=65536) (w:World):Calls prog 95 #[.string S] w fun e w'=>e = .returned (iP (U9 S.data.toList))/\Below w.heap.size w w':=by
 obtain⟨r,hr⟩:=xE (U9 S.data.toList)
 rw [<- hr]
 have Y:=Za hr
 clear hr
 have N:=zjv w 9
 have V:=Zq w (.cells #[.string { data:=#[45,62] },.string { data:=#[61,62] },.string { data:=#[60,58] },.string { data:=#[60,60] },.string { data:=#[60,61] },.string { data:=#[62,62] },.string { data:=#[61,61] },.string { data:=#[43,43] }] 9)
 have h0I:(0:Int)<(S.size:Int):=by omega
 obtain⟨O,M⟩:∃ O:ByteArray,O={ data:=#[40,41,123,125,91,93,44,58,59,61,43,45,42,47,37,38,94,60,124,46] }:=⟨_,rfl⟩
 have T:O.size=20:=by rw [M]; rfl
 have H:xQ (O.data.toList=A9):=by show _=_; rw [M]; rfl
 have HO:=Za M
 have HOS:=Za T
 clear M
 go_enter func95,ntmps95
 go_wp2
 generalize hw1:w.alloc _=w1 at N V ⊢
 have HC:=Za N
 have F:=Za V
 clear N V hw1
 go_loopw [4] (fun i wr=>∃ k n:Nat,k<=8/\i=iP k/\wr=w1.drewN n/\xQ (qY S k)) (fun i _=>8 - (intOf i).toNat)
 case atStart=>exact⟨0,0,by omega,rfl,rfl,fun i A=>by omega⟩
 case round =>
  obtain⟨k,n,hk,rfl,rfl,Ph⟩:=hrel;by_cases Zt:k<8
  ·have hkI:(k:Int)<8:=by omega
   have c:=HC.o k Zt;obtain⟨U,hU⟩:=xE (zW k);rw [<- hU] at c;have HU:=Za hU;clear hU;by_cases h2:2<=S.size
   ·have h2I:(2:Int)<=(S.size:Int):=by omega
    cases C:((S.extract 0 2).toList == U.toList)
    ·have J:xQ (qY S (k+1)):=fun i A=>by
      by_cases I:i=k
      ·subst I; rw [<- HU.o]; exact fun h=>uW C h.2
      ·exact Ph.o i (by omega)
     go_wp2
     go_quiet(fail)
     go_wp2
     go_roundw
     case rel=>exact⟨k+1,_,by omega,by go_num,rfl,J⟩
     case measure=>simp [intOf]; omega
    ·have e:r=2:=by
      rw [Y.o];exact zih h2 Zt ((Cs.1 C).trans HU.o)
     subst e;go_wp2
     go_quiet(fail)
     go_wp2;go_ret;exact⟨rfl,by first | exact E4 F.o _ | exact E4 (E4 F.o _) _⟩
   ·have h2I:decide ((2:Int)<=(S.size:Int))=false:=by simp; omega
    have J:xQ (qY S (k+1)):=fun i A h=>h2 h.1
    go_wp2
    go_quiet(fail)
    go_wp2
    go_roundw
    case rel=>exact⟨k+1,_,by omega,by go_num,rfl,J⟩
    case measure=>simp [intOf]; omega
  ·have Xq:=Za (zig h0 (fun i A=>Ph.o i (by omega)))
   go_wp2;rw [<- HO.o]
   go_loopw [6] (fun i wr=>∃ k n:Nat,k<=20/\i=iP k/\wr=w1.drewN n/\xQ (nT O S[0] k)) (fun i _=>20 - (intOf i).toNat)
   case atStart=>exact⟨0,_,by omega,rfl,rfl,fun i _ A=>by omega⟩
   case round =>
    obtain⟨j,n2,hj,rfl,rfl,z⟩:=hrel;by_cases hltj:j<20
    ·have Z:j<O.size:=by omega
     have hjI:(j:Int)<(O.size:Int):=by omega
     by_cases C:S[0].toNat=O[j].toNat
     ·have p:((S[0].toNat:Int) == (O[j].toNat:Int))=true:=by simp; omega
      have e:r=1:=by
       rw [Y.o,Xq.o,zeu H.o Z (UInt8.toNat_inj.1 C)];rfl
      subst e;clear C;go_wp2
      go_quiet(fail)
      go_wp2;go_ret;exact⟨rfl,by first | exact E4 F.o _ | exact E4 (E4 F.o _) _⟩
     ·have p:((S[0].toNat:Int) == (O[j].toNat:Int))=false:=by simp; omega
      have J:xQ (nT O S[0] (j+1)):=fun i A I=>by
       by_cases e:i=j
       ·subst e; exact fun e2=>C (by rw [e2])
       ·exact z.o i A (by omega)
      clear C;go_wp2
      go_quiet(fail)
      go_wp2
      go_roundw
      case rel=>exact⟨j+1,_,by omega,by go_num,rfl,J⟩
      case measure=>simp [intOf]; omega
    ·have hjI:¬ (j:Int)<(O.size:Int):=by omega
     have e:r=0:=by
      rw [Y.o,Xq.o,one_no H.o (fun i A _=>z.o i A (by omega))];rfl
     subst e;go_wp2;go_ret;exact⟨rfl,by first | exact E4 F.o _ | exact E4 (E4 F.o _) _⟩
end Lx
namespace Lx

end Lx
namespace Lx
open Go.RowKit
theorem uU (T U:bA):(T ++ U).data.toList=T.data.toList ++ U.data.toList:=by simp
theorem uV (T U:bA):(T ++ U).size=T.size+U.size:=by simp [ByteArray.size_append]
theorem mS {S:bA} {k:Nat} (h:k<S.size):(S.extract k (k+1)).data.toList=[S[k]]:=by
 rw [Il,Nat.add_sub_cancel_left,Ue S k h]
 rfl
theorem jB {S:bA} {k:Nat} (h:k<S.size):(S.extract k (k+1)).size=1:=by
 rw [<- Wz,mS h]
 rfl
def lQ (S:bA) (o:Option (bS×bS)) (e:Ending):Prop :=
 match o with
 | none=>e = .returned (.tuple #[.string { data:=#[] },iP 0])
 | some (said,rest)=>∃ m:Nat,1<m/\m<=S.size/\rest=S.data.toList.drop m/\e = .returned (.tuple #[uP said,iP m])
theorem zfz (S:bA) (hS:S.size<=65536) (w:World):Calls prog 94 #[.string S] w fun e w'=>lQ S (Qi S 1 []) e/\w'=w:=by
 obtain⟨o,M⟩:=xE (Qi S 1 [])
 rw [<- M]
 have C:=Za M
 clear M
 go_enter func94,ntmps94
 go_wp2
 go_loop [4,5] (fun v i=>∃ (m:Nat) (T:bA),1<=m/\m<=S.size+1/\i=iP m/\v = .string T/\T.size<=m/\xQ (o=Qi S m T.data.toList)) (fun _ i=>S.size+1 - (intOf i).toNat)
 case atStart=>exact⟨1,_,xR,by omega,rfl,rfl,by decide,C.o⟩
 case round =>
  obtain⟨m,T,Kk,Dk,rfl,rfl,hT,hrel⟩:=hrel;by_cases F:m<S.size
  ·have Y:(m:Int)<(S.size:Int):=by omega
   by_cases b1:S[m].toNat=34
   ·have p1:((S[m].toNat:Int) == 34)=true:=by simp; omega
    have e:=hrel.o.trans (rJ F b1);subst e;clear b1 hrel C;go_wp2
    go_ret2
    exact⟨⟨m+1,by omega,by omega,rfl,rfl⟩,rfl⟩
   have n1:((S[m].toNat:Int) == 34)=false:=by simp; omega
   by_cases b2:S[m].toNat<32
   ·have p2:(S[m].toNat:Int)<32:=by omega
    have e:=hrel.o.trans (rG F b2);subst e;clear b1 b2 hrel C;go_wp2
    go_ret2
    exact⟨rfl,rfl⟩
   have n2:¬ (S[m].toNat:Int)<32:=by omega
   by_cases b3:S[m].toNat=92
   ·have p3:((S[m].toNat:Int) != 92)=false:=by simp; omega
    by_cases I:m+1<S.size
    ·have H:¬ (S.size:Int)<=(m:Int)+1:=by omega
     have hl1J:(m:Int)+1<(S.size:Int):=by omega
     have z:=Za (mS I);have N:=jB I
     have Z:(m:Int)+1+1<=(S.size:Int):=by omega
     have V:(m:Int)+1<=(m:Int)+1+1:=by omega
     have h:=fun x=>rK (acc:=T.data.toList) (x:=x) F b3 I
     have j:=rH (acc:=T.data.toList) F b3 I;by_cases c1:S[m+1].toNat=92
     ·have q1:((S[m+1].toNat:Int) == 92)=true:=by simp; omega
      have A:S[m+1]=92:=UInt8.toNat_inj.1 c1
      have E:xQ (o=Qi S (m+2) (T ++ S.extract (m+1) (m+1+1)).data.toList):=by
       show _=_;rw [uU,z.o,A,hrel.o];exact h 92 (by rw [A]; rfl)
      clear c1 A b1 b2 b3 h j hrel C z;go_wp2
      go_round
      case rel=>exact⟨m+2,_,by omega,by omega,by go_num,rfl,by rw [uV]; omega,E⟩
      case measure=>simp [intOf]; omega
     have r1:((S[m+1].toNat:Int) == 92)=false:=by simp; omega
     by_cases c2:S[m+1].toNat=34
     ·have q2:((S[m+1].toNat:Int) == 34)=true:=by simp; omega
      have A:S[m+1]=34:=UInt8.toNat_inj.1 c2
      have E:xQ (o=Qi S (m+2) (T ++ S.extract (m+1) (m+1+1)).data.toList):=by
       show _=_;rw [uU,z.o,A,hrel.o];exact h 34 (by rw [A]; rfl)
      clear c1 c2 A b1 b2 b3 h j hrel C z;go_wp2
      go_round
      case rel=>exact⟨m+2,_,by omega,by omega,by go_num,rfl,by rw [uV]; omega,E⟩
      case measure=>simp [intOf]; omega
     have r2:((S[m+1].toNat:Int) == 34)=false:=by simp; omega
     by_cases c3:S[m+1].toNat=110
     ·have q3:((S[m+1].toNat:Int) == 110)=true:=by simp; omega
      have A:S[m+1]=110:=UInt8.toNat_inj.1 c3
      have E:xQ (o=Qi S (m+2) (T ++ { data:=#[10] }).data.toList):=by
       show _=_;rw [uU,hrel.o];exact h 10 (by rw [A]; rfl)
      have J:(T ++ { data:=#[10] }:bA).size<=m+2:=by rw [uV]; show T.size+1<=m+2; omega
      clear c1 c2 c3 A b1 b2 b3 h j hrel C z;go_wp2
      go_round
      case rel=>exact⟨m+2,_,by omega,by omega,by go_num,rfl,J,E⟩
      case measure=>simp [intOf]; omega
     have r3:((S[m+1].toNat:Int) == 110)=false:=by simp; omega
     by_cases c4:S[m+1].toNat=116
     ·have q4:((S[m+1].toNat:Int) == 116)=true:=by simp; omega
      have A:S[m+1]=116:=UInt8.toNat_inj.1 c4
      have E:xQ (o=Qi S (m+2) (T ++ { data:=#[9] }).data.toList):=by
       show _=_;rw [uU,hrel.o];exact h 9 (by rw [A]; rfl)
      have J:(T ++ { data:=#[9] }:bA).size<=m+2:=by rw [uV]; show T.size+1<=m+2; omega
      clear c1 c2 c3 c4 A b1 b2 b3 h j hrel C z;go_wp2
      go_round
      case rel=>exact⟨m+2,_,by omega,by omega,by go_num,rfl,J,E⟩
      case measure=>simp [intOf]; omega
     have r4:((S[m+1].toNat:Int) == 116)=false:=by simp; omega
     have f:∀ n:UInt8,S[m+1].toNat≠n.toNat->¬ S[m+1]=n:=fun n O e=>O (by rw [e])
     have e:=hrel.o.trans (j (by rw [Ft,if_neg (f 92 c1),if_neg (f 34 c2),if_neg (f 110 c3),if_neg (f 116 c4)]));subst e;clear c1 c2 c3 c4 b1 b2 b3 h j hrel C z f;go_wp2
     go_ret2
     exact⟨rfl,rfl⟩
    ·have H:(S.size:Int)<=(m:Int)+1:=by omega
     have e:=hrel.o.trans (rB F b3 I);subst e;clear b1 b2 b3 hrel C;go_wp2
     go_ret2
     exact⟨rfl,rfl⟩
   have n3:((S[m].toNat:Int) != 92)=true:=by simp; omega
   have z:=Za (mS F);have N:=jB F
   have Z:(m:Int)+1<=(S.size:Int):=by omega
   have V:(m:Int)<=(m:Int)+1:=by omega
   have E:xQ (o=Qi S (m+1) (T ++ S.extract m (m+1)).data.toList):=by
    show _=_;rw [uU,z.o,hrel.o];exact rI F b1 b2 b3
   clear b1 b2 b3 hrel C z;go_wp2
   go_round
   case rel=>exact⟨m+1,_,by omega,by omega,by go_num,rfl,by rw [uV]; omega,E⟩
   case measure=>simp [intOf]; omega
  ·have Y:¬ (m:Int)<(S.size:Int):=by omega
   have e:=hrel.o.trans (rC F);subst e;clear hrel C;go_wp2
   go_ret2
   exact⟨rfl,rfl⟩
end Lx
namespace Lx
def val:bS->Int->Int
 | [],n=>n
 | d :: r,n=>val r (n*10+((d.toNat:Int) - 48))
def Lg (d:UInt8):Prop:=48<=(d.toNat:Int)/\(d.toNat:Int)<=57
theorem eT:∀ (l:bS) (n:Int),0<=n->(∀ d ∈ l,Lg d)->n<=val l n
 | [],n,_,_=>Int.le_refl n
 | d :: r,n,hn,hd=>by
  have h:=hd d (xM ..);unfold Lg at h;have:=eT r (n*10+((d.toNat:Int) - 48)) (by omega) (fun x j=>hd x (xW _ j));rw [val];omega
theorem eR:∀ (l:bS) (d:UInt8) (n:Int),val (l ++ [d]) n=val l n*10+((d.toNat:Int) - 48)
 | [],_,_=>rfl
 | x :: r,d,n=>by
  rw [List.cons_append,val,val,eR r d]
theorem sA:∀ (l:bS) (n:Int),0<=n->(∀ d ∈ l,Lg d)->val l n<=9223372036854775807->Lc l n=some (val l n)
 | [],_,_,_,_=>rfl
 | d :: r,n,hn,hd,hv=>by
  have h:=hd d (xM ..);unfold Lg at h
  have j:∀ x ∈ r,Lg x:=fun x z=>hd x (xW _ z)
  rw [val] at hv ⊢;have hg:=eT r (n*10+((d.toNat:Int) - 48)) (by omega) j;rw [Lc,if_neg (by omega),if_neg (by omega)];exact sA r _ (by omega) j hv
theorem uF:∀ (l:bS) (n:Int),0<=n->((∃ d ∈ l,¬ Lg d)∨(∀ d ∈ l,Lg d)/\9223372036854775807<val l n/\n<=9223372036854775807)->Lc l n=none
 | [],n,_,h=>by
  rcases h with⟨d,z,_⟩ | ⟨_,h,h2⟩
  ·cases z
  ·rw [val] at h
   omega
 | d :: r,n,hn,h=>by
  rw [Lc];by_cases z:(d.toNat:Int)<48∨57<(d.toNat:Int)
  ·rw [if_pos z]
  rw [if_neg z];by_cases C:(9223372036854775807 - ((d.toNat:Int) - 48)) / 10<n
  ·rw [if_pos C]
  rw [if_neg C];refine uF r _ (by omega) ?_;rcases h with⟨x,j,A⟩ | ⟨ha,hv,hm⟩
  ·rcases List.mem_cons.1 j with rfl | j
   ·exact absurd (show Lg x from ⟨by omega,by omega⟩) A
   ·exact Or.inl ⟨x,j,A⟩
  ·rw [val] at hv
   exact Or.inr ⟨fun x j=>ha x (xW _ j),hv,by omega⟩
end Lx
namespace Lx
open Go.RowKit
def Q7 (k:Nat):Int:=10 ^ k - 1
theorem top_19 {k:Nat} (h:k<=19):Q7 k<=9999999999999999999:=by
 have:(10:Nat) ^ k<=10 ^ 19:=Nat.pow_le_pow_right (by decide) h
 have e:((10 ^ k:Nat):Int)=(10:Int) ^ k:=by simp
 unfold Q7
 omega
theorem top_18 {k:Nat} {m:Int} (h:m<=Q7 k) (j:k<=18):m<=999999999999999999:=by
 have:(10:Nat) ^ k<=10 ^ 18:=Nat.pow_le_pow_right (by decide) j
 have e:((10 ^ k:Nat):Int)=(10:Int) ^ k:=by simp
 unfold Q7 at h
 omega
theorem zjs {k:Nat} {m d:Int} (h:m<=Q7 k) (hd:d<=9):10*m+d<=Q7 (k+1):=by
 have e:(10:Int) ^ (k+1)=10 ^ k*10:=Int.pow_succ 10 k
 unfold Q7 at *
 omega
theorem rV (s:bA) (k:Nat) (j:k<s.size):s.data.toList.take (k+1)=s.data.toList.take k ++ [s[k]]:=by
 have h:k<s.data.toList.length:=by rw [Wz]; exact j
 rw [List.take_succ_eq_append_getElem h]
 rfl
theorem zkj (s:bA) (k:Nat) (h:k<s.size):val (s.data.toList.take (k+1)) 0=10*val (s.data.toList.take k) 0+((s[k].toNat:Int) - 48):=by
 rw [rV s k h,eR]
 omega
theorem nL (s:bA) (k:Nat) (j:k<s.size):s[k] ∈ s.data.toList:=by
 have h:k<s.data.toList.length:=by rw [Wz]; exact j
 exact List.getElem_mem h
theorem zae (s:bA) (k:Nat) (j:k<s.size) (h:∀ d ∈ s.data.toList.take k,Lg d) (z:Lg s[k]):∀ d ∈ s.data.toList.take (k+1),Lg d:=by
 rw [rV s k j]
 intro d hm
 rcases List.mem_append.1 hm with hm | hm
 ·exact h d hm
 ·rw [List.mem_singleton.1 hm]
  exact z
theorem eU:∀ (l:bS) (n:Int),0<=n->(∀ d ∈ l,Lg d)->n*10 ^ l.length<=val l n
 | [],n,_,_=>by simp [val]
 | d :: r,n,hn,hd=>by
  have h:=hd d (xM ..);unfold Lg at h;have ih:=eU r (n*10+((d.toNat:Int) - 48)) (by omega) (fun x j=>hd x (xW _ j));rw [val,List.length_cons,Int.pow_succ];have z:(0:Int)<10 ^ r.length:=Int.pow_pos (by decide)
  have:n*(10 ^ r.length*10)<=(n*10+((d.toNat:Int) - 48))*10 ^ r.length:=by
   rw [Int.add_mul,Int.mul_comm (10 ^ r.length) 10,<- Int.mul_assoc];have:=Int.mul_nonneg (show 0<=(d.toNat:Int) - 48 by omega) (Int.le_of_lt z);omega
  omega
theorem zfh (s:bA) (z:0<s.size) (C:¬ ((s[0].toNat:Int)=48/\1<s.size)) (hl:19<s.size):Ns s.data.toList=none:=by
 rw [bC z C]
 refine uF _ 0 (by omega) ?_
 by_cases ha:∀ d ∈ s.data.toList,Lg d
 ·refine Or.inr ⟨ha,?_,by omega⟩
  have e:=Ue s 0 z;rw [List.drop_zero] at e;have j:=ha _ (nL s 0 z);unfold Lg at j
  have H:∀ d ∈ s.data.toList.drop (0+1),Lg d:=fun d j=>ha d (List.mem_of_mem_drop j)
  obtain⟨x,F⟩:∃ x:Int,x=(s[0].toNat:Int) - 48:=⟨_,rfl⟩
  have hv:=eU (s.data.toList.drop (0+1)) x (by omega) H
  have h:(s.data.toList.drop (0+1)).length=s.size - 1:=by rw [List.length_drop,Wz]
  rw [h] at hv;have hp:(10:Nat) ^ 19<=10 ^ (s.size - 1):=Nat.pow_le_pow_right (by decide) (by omega)
  have e2:((10 ^ (s.size - 1):Nat):Int)=(10:Int) ^ (s.size - 1):=by simp
  have I:val s.data.toList 0=val (s.data.toList.drop (0+1)) x:=by
   rw [e,val,F];simp
  rw [I]
  have A:(1:Int)<=x:=by omega
  have:=Int.mul_le_mul_of_nonneg_right A (show(0:Int)<=10 ^ (s.size - 1) by omega);omega
 ·refine Or.inl ?_
  obtain⟨d,j⟩:=Classical.not_forall.1 ha;obtain⟨A,J⟩:=Classical.not_imp.1 j;exact⟨d,A,J⟩
theorem parseR_c (s:bA) (w:World) (hs:s.size<=9223372036854775807):Calls prog 93 #[.string s] w fun e w'=>e = .returned (Cp (Ns s.data.toList))/\w'=w:=by
 by_cases H:s.size=0
 ·have Z:((s.size:Int) == 0)=true:=by simpa using H
  rw [sB H];go_enter func93,j;go_wp2
  go_ret2
  exact⟨rfl,rfl⟩
 have Z:((s.size:Int) == 0)=false:=by simpa using H
 have J:0<s.size:=by omega
 by_cases z:(s[0].toNat:Int)=48/\1<s.size
 ·rw [sC J z.1 z.2]
  obtain⟨N5,Kl⟩:=z;by_cases O:19<s.size
  all_goals
   go_enter func93,j;go_wp2
   go_ret2
   exact⟨rfl,rfl⟩
 by_cases O:19<s.size
 ·rw [zfh s J z O]
  clear z;go_enter func93,j;go_wp2
  go_ret2
  exact⟨rfl,rfl⟩
 have F:=Za (bC J z)
 have M:((s[0].toNat:Int)=48/\s.size<=1)∨¬ (s[0].toNat:Int)=48:=by omega
 clear z H
 rcases M with⟨M,Tj⟩ | M
 all_goals
  go_enter func93,j;go_wp2
  go_loop [4,5] (fun n i=>∃ (k:Nat) (m:Int),k<=s.size/\i=iP k/\n = .int .u64 m/\0<=m/\m<=Q7 k/\m=val (s.data.toList.take k) 0/\∀ d ∈ s.data.toList.take k,Lg d) (fun _ i=>s.size - (intOf i).toNat)
  case atStart=>exact⟨0,0,xZ _,rfl,rfl,by omega,by decide,rfl,by simp⟩
  case round =>
   obtain⟨k,m,hk,rfl,rfl,hm0,T,hv,ha⟩:=hrel;have N:=Za T;have A:=Za hv;have C:=Za ha;clear T hv ha;by_cases I:k<s.size
   ·have Y:m<=999999999999999999:=top_18 N.o (by omega)
    by_cases b1:(s[k].toNat:Int)<48
    ·go_wp2
     go_ret2
     rw [F.o,uF _ 0 (by omega) (Or.inl ⟨s[k],nL s k I,fun h=>by unfold Lg at h; omega⟩)];exact⟨rfl,rfl⟩
    by_cases b2:57<(s[k].toNat:Int)
    ·go_wp2
     go_ret2
     rw [F.o,uF _ 0 (by omega) (Or.inl ⟨s[k],nL s k I,fun h=>by unfold Lg at h; omega⟩)];exact⟨rfl,rfl⟩
    ·go_wp2
     go_round
     case rel=>exact⟨k+1,10*m+((s[k].toNat:Int) - 48),by omega,by go_num,rfl,by omega,zjs N.o (by omega),by rw [zkj s k I,A.o],zae s k I C.o ⟨by omega,by omega⟩⟩
     case measure=>simp [intOf]; omega
   ·have Y:m<=9999999999999999999:=Int.le_trans N.o (top_19 (by omega))
    have e:s.data.toList.take k=s.data.toList:=List.take_of_length_le (by rw [Wz]; omega);rw [e] at A C;by_cases V:9223372036854775807<m
    ·go_wp2
     go_ret2
     rw [F.o,uF _ 0 (by omega) (Or.inr ⟨C.o,by rw [<- A.o]; exact V,by omega⟩)];exact⟨rfl,rfl⟩
    ·go_wp2
     go_ret2
     rw [F.o,sA _ 0 (by omega) C.o (by rw [<- A.o]; omega),<- A.o];exact⟨rfl,rfl⟩
def vJ (S:bA) (w:World) (R:Rd) (e:Ending) (w':World):Prop :=
 Below w.heap.size w w'/\match R with
 | .inl x=>x≠0/\e = .returned (.tuple #[.agg #[iP 0,.string { data:=#[] },iP 0,iP 0],iP 0,iP x])
 | .inr (k,t,rest)=>∃ n:Nat,0<n/\n<=S.size/\rest=S.data.toList.drop n/\e = .returned (.tuple #[.agg #[iP k,uP t,iP 0,iP 0],iP n,iP 0])
theorem Ei {F:Func} {p u v:Tmp} {z:TypeId} (h:F.results=#[.cell p z,.tmp u,.tmp v]) (j:Array Value) {P:Program} {w:World} {g:Nat} {t:TypeId} {cs:Array Value} {C:Nat×Nat} {J:Array Field}
  (H:j.getD p undef=qP g) (N:w.heap[g]?=some (.cells cs t C))
  (I:P.underlying z=some (.struct J)) (M:(P.info? z).map (·.size)=some cs.size) :
  (results F j).run P w = .ok (.tuple #[.agg cs,j.getD u undef,j.getD v undef]) w:=by
 have A:j[p]?.getD undef=qP g:=by simpa using H
 simp [results,h,A,asAddr,run_loadVar_row w g t z cs C _ N I rfl M]
theorem Em:(prog.info? 121).map (·.size)=some 4:=by kernel_rfl
theorem Wp.set {w:World} {tb:Nat} {kind:Int} {text:bA} {li co:Int} (h:Wp w tb kind text li co) (C:Int) (A:bA) (j z:Int) :
  Wp ((((w.setCell (aP tb 0) (iP C)).setCell (aP tb 1) (.string A)).setCell (aP tb 2) (iP j)).setCell (aP tb 3) (iP z)) tb C A j z :=
 Y1 (Y1 (Y1 (Y1 h)))
theorem rZ {w w2:World} (h:Below (w.alloc (.cells #[iP 0,.string { data:=#[] },iP 0,iP 0] 121)).heap.size (w.alloc (.cells #[iP 0,.string { data:=#[] },iP 0,iP 0] 121)) w2):Wp w2 w.heap.size 0 { data:=#[] } 0 0:=by
 unfold Wp
 rw [h.block _ (by simp)]
 exact xL w _
theorem zcq {b:UInt8} (h:Tw b=true):Xh b=false:=by
 cases hd:Xh b
 ·rfl
 ·rw [uB hd] at h
  cases h
theorem aI (S:bA) (p:UInt8->Bool):(S.extract 0 (Wk S 0 p)).data.toList=S.data.toList.takeWhile p:=by
 rw [mT,List.drop_zero]
theorem zjp (S:bA) (h0:0<S.size) (hS:S.size<=65536) (T:Tw S[0]=true) (w:World):Calls prog 71 #[.string S] w (vJ S w (U1 S.data.toList)):=by
 have O:=Oe (k:=0) h0
 rw [List.drop_zero,T,if_pos rfl] at O
 have Kj:=Cl S[0]
 have Mh:=Rq S[0]
 rw [T] at Kj
 rw [zcq T] at Mh
 have Ku:=Za Kj
 have M8:=Za Mh
 have J:=pL (p:=Xm) h0 (by simp [Xm,T])
 have Px:=Oh S 0 Xm (by omega)
 have V3:=aI S Xm
 have Xe:Wk S 0 Xm=(S.data.toList.takeWhile Xm).length:=by unfold Wk; simp
 rw [<- Xe,<- V3] at O
 obtain⟨r,hr⟩:=xE (Wk S 0 Xm)
 have Yu:=Za hr
 have Z:=cK (S.extract 0 r)
 rw [<- hr] at O J Px
 obtain⟨R,hR⟩:=xE (U1 S.data.toList)
 rw [<- hR] at O ⊢
 have Qu:=Za O
 have HWC:=Za Z
 have h0I:(0:Int)<(S.size:Int):=by omega
 clear Kj Mh T hr O V3 Xe hR Z
 go_enter func71,ntmps71
 go_wp2_with fail
 refine(Ku.o _).mono ?_
 rintro e w' ⟨rfl,rfl⟩
 go_wp2_with fail
 refine(M8.o _).mono ?_
 rintro e w' ⟨rfl,rfl⟩
 go_wp2
 go_loop [7] (fun i=>∃ m:Nat,m<=S.size/\i=iP m/\xQ (r=Wk S m Xm)) (fun i=>S.size - (intOf i).toNat)
 case atStart=>exact⟨0,xZ _,rfl,Yu⟩
 case round =>
  obtain⟨m,hm,rfl,C⟩:=hrel;by_cases F:∃ h:m<S.size,Xm S[m]=true
  ·obtain⟨A,F⟩:=F
   have Cd:(m:Int)<(S.size:Int):=by omega
   have I:=Cl S[m];have H:=Rq S[m];have N:xQ (r=Wk S (m+1) Xm):=C.o.trans (zS A F)
   have hab:(Tw S[m]=true/\Xh S[m]=false)∨(Tw S[m]=false/\Xh S[m]=true)∨(Tw S[m]=true/\Xh S[m]=true):=by
    revert F
    unfold Xm
    cases Tw S[m] <;> cases Xh S[m] <;> simp
   clear F;rcases hab with⟨ha,j⟩ | ⟨ha,j⟩ | ⟨ha,j⟩
   all_goals
    rw [ha] at I;rw [j] at H;have Mz:=Za I;have Jq:=Za H;clear I H ha j;go_wp2_with fail;refine(Mz.o _).mono ?_;rintro e w' ⟨rfl,rfl⟩;go_wp2_with fail;refine(Jq.o _).mono ?_;rintro e w' ⟨rfl,rfl⟩;go_wp2
    go_round
    case rel=>exact⟨m+1,by omega,by go_num,N⟩
    case measure=>simp [intOf]; omega
  ·have hmr:r=m:=by
    by_cases A:m<S.size
    ·rw [C.o]
     refine uM A ?_;cases hq:Xm S[m]
     ·rfl
     ·exact absurd ⟨A,hq⟩ F
    ·rw [C.o,uL A]
   subst hmr
   have mI:(r:Int)<=(S.size:Int):=by omega
   have hex:(∃ h:r<S.size,(r:Int)<(S.size:Int)/\Tw S[r]=false/\Xh S[r]=false)∨¬ (r:Int)<(S.size:Int):=by
    by_cases A:r<S.size
    ·have:Xm S[r]=false:=by
      cases hq:Xm S[r]
      ·rfl
      ·exact absurd ⟨A,hq⟩ F
     unfold Xm at this;rw [Bool.or_eq_false_iff] at this;exact .inl ⟨A,by omega,this.1,this.2⟩
    ·exact .inr (by omega)
   clear F C Yu;rcases hex with⟨A,Cd,ha,j⟩ | Cd
   all_goals
    first
    | (have I:=Cl S[r]
       have H:=Rq S[r];rw [ha] at I;rw [j] at H;have Mz:=Za I;have Jq:=Za H;clear I H ha j;go_wp2_with fail;refine(Mz.o _).mono ?_;rintro e w' ⟨rfl,rfl⟩;go_wp2_with fail;refine(Jq.o _).mono ?_
       rintro e w' ⟨rfl,rfl⟩)
    | skip
    by_cases Y:32<r
    ·have h32I:(32:Int)<(r:Int):=by omega
     have M:=Qu.o;rw [if_pos Y] at M;subst M;clear Qu;go_wp2;refine bodyPost_ret (Ei rfl _ rfl (xL w _) underlying121 Em) rfl ?_;exact⟨Zq w _,by decide,rfl⟩
    ·have h32I:¬ (32:Int)<(r:Int):=by omega
     have M:=Qu.o;rw [if_neg Y] at M;have Pm:=Za M;clear M Qu;go_wp2_with fail;refine(HWC.o _).mono ?_;rintro e w2 ⟨rfl,Z5⟩;have z:=rZ Z5;have V:=Za z;have c0:=z.c0;have c1:=z.c1;have c2:=z.c2;have c3:=z.c3;have f0:=z.fz 0;have f1:=z.fz 1;have f2:=z.fz 2;have f3:=z.fz 3;have Xa:=Za (Zz (Zq w _) Z5);obtain⟨b,j⟩:=xE (P5.contains (S.extract 0 r).data.toList)
     rw [<- j] at Pm ⊢;clear Z5 z j;cases b
     ·go_wp2
      refine bodyPost_ret (Ei rfl _ rfl (V.o.set _ _ _ _) underlying121 Em) rfl ?_;rw [Pm.o];exact⟨Rp Xa.o _ _ _ _,r,J,Px,rfl,rfl⟩
     ·go_wp2
      refine bodyPost_ret (Ei rfl _ rfl (V.o.set _ _ _ _) underlying121 Em) rfl ?_;rw [Pm.o];exact⟨Rp Xa.o _ _ _ _,r,J,Px,rfl,rfl⟩
theorem zjo (S:bA) (h0:0<S.size) (hS:S.size<=65536) (J:Xh S[0]=true) (w:World):Calls prog 71 #[.string S] w (vJ S w (U1 S.data.toList)):=by
 have O:=Oe (k:=0) h0
 rw [List.drop_zero,uB J,J,if_neg (by decide),if_pos rfl] at O
 have Kj:=Cl S[0]
 have Mh:=Rq S[0]
 rw [uB J] at Kj
 rw [J] at Mh
 have Ku:=Za Kj
 have M8:=Za Mh
 have Y:=pL (p:=Xh) h0 J
 have Px:=Oh S 0 Xh (by omega)
 have V3:=aI S Xh
 rw [<- V3] at O
 obtain⟨r,hr⟩:=xE (Wk S 0 Xh)
 have Yu:=Za hr
 rw [<- hr] at O Y Px
 have hxs:(S.extract 0 r).size<=65536:=by
  rw [<- Wz,Il];simp;omega
 have T:=parseR_c (S.extract 0 r)
 obtain⟨R,hR⟩:=xE (U1 S.data.toList)
 rw [<- hR] at O ⊢
 have Z:=Za O
 have C:=Za (fun w=>T w (by omega))
 have h0I:(0:Int)<(S.size:Int):=by omega
 clear Kj Mh J hr O V3 hR T hxs
 go_enter func71,ntmps71
 go_wp2_with fail
 refine(Ku.o _).mono ?_
 rintro e w' ⟨rfl,rfl⟩
 go_wp2_with fail
 refine(M8.o _).mono ?_
 rintro e w' ⟨rfl,rfl⟩
 go_wp2
 go_loop [7] (fun i=>∃ m:Nat,m<=S.size/\i=iP m/\xQ (r=Wk S m Xh)) (fun i=>S.size - (intOf i).toNat)
 case atStart=>exact⟨0,xZ _,rfl,Yu⟩
 case round =>
  obtain⟨m,hm,rfl,z⟩:=hrel;by_cases A:∃ h:m<S.size,Xh S[m]=true
  ·obtain⟨j,A⟩:=A
   have Cd:(m:Int)<(S.size:Int):=by omega
   have M:=Cl S[m];have F:=Rq S[m];have N:xQ (r=Wk S (m+1) Xh):=z.o.trans (zS j A);rw [uB A] at M;rw [A] at F;have Mz:=Za M;have Jq:=Za F;clear M F A;go_wp2_with fail;refine(Mz.o _).mono ?_;rintro e w' ⟨rfl,rfl⟩;go_wp2_with fail;refine(Jq.o _).mono ?_;rintro e w' ⟨rfl,rfl⟩;go_wp2
   go_round
   case rel=>exact⟨m+1,by omega,by go_num,N⟩
   case measure=>simp [intOf]; omega
  ·have hmr:r=m:=by
    by_cases j:m<S.size
    ·rw [z.o]
     refine uM j ?_;cases hq:Xh S[m]
     ·rfl
     ·exact absurd ⟨j,hq⟩ A
    ·rw [z.o,uL j]
   subst hmr
   have mI:(r:Int)<=(S.size:Int):=by omega
   have hex:(∃ h:r<S.size,(r:Int)<(S.size:Int)/\Xh S[r]=false)∨¬ (r:Int)<(S.size:Int):=by
    by_cases j:r<S.size
    ·have:Xh S[r]=false:=by
      cases hq:Xh S[r]
      ·rfl
      ·exact absurd ⟨j,hq⟩ A
     exact .inl ⟨j,by omega,this⟩
    ·exact .inr (by omega)
   clear A z Yu;rcases hex with⟨j,Cd,hb⟩ | Cd
   all_goals
    first
    | (have M:=Cl S[r]
       have F:=Rq S[r];rw [hb] at F;have Mz:=Za M;have Jq:=Za F;clear M F hb;go_wp2_with fail;refine(Mz.o _).mono ?_;rintro e w' ⟨rfl,rfl⟩;go_wp2_with fail;refine(Jq.o _).mono ?_
       rintro e w' ⟨rfl,rfl⟩)
    | skip
    cases hq:Ns (S.extract 0 r).data.toList with
    | none =>
     have V:=Z.o;rw [hq] at V;have I:=C.o;rw [hq] at I;have H:=Za I;clear Z hq C I;go_wp2_with fail;refine(H.o _).mono ?_;rintro e w' ⟨rfl,rfl⟩;simp only [Cp,Option.getD_none,Option.isSome_none];go_wp2;rw [V];refine bodyPost_ret (Ei rfl _ rfl (xL w _) underlying121 Em) rfl ?_;exact⟨Zq w _,by decide,rfl⟩
    | some v =>
     have V:=Z.o;rw [hq] at V;have I:=C.o;rw [hq] at I;have H:=Za I;clear Z hq C I;go_wp2_with fail;refine(H.o _).mono ?_;rintro e w' ⟨rfl,rfl⟩;simp only [Cp,Option.getD_some,Option.isSome_some];go_wp2;rw [V];refine bodyPost_ret (Ei rfl _ rfl (xL w _) underlying121 Em) rfl ?_;exact⟨Zq w _,r,Y,Px,rfl,rfl⟩
theorem zjr (S:bA) (h0:0<S.size) (hS:S.size<=65536) (V:Tw S[0]=false) (hd:Xh S[0]=false) (A:S[0]=34) (w:World):Calls prog 71 #[.string S] w (vJ S w (U1 S.data.toList)):=by
 have J:=Oe (k:=0) h0
 rw [List.drop_zero,V,hd,if_neg (by decide),if_neg (by decide),if_pos A] at J
 have Kj:=Cl S[0]
 have Y:=Rq S[0]
 rw [V] at Kj
 rw [hd] at Y
 have Ku:=Za Kj
 have M8:=Za Y
 have j:=zfz S hS
 obtain⟨R,hR⟩:=xE (U1 S.data.toList)
 rw [<- hR] at J ⊢
 have p1:((S[0].toNat:Int) == 34)=true:=by rw [A]; rfl
 have h0I:(0:Int)<(S.size:Int):=by omega
 cases ho:Qi S 1 [] with
 | none =>
  rw [ho] at j;rw [Nat.zero_add,ho] at J;subst J;have I:=Za j;clear Kj Y V hd A hR j ho;go_enter func71,z;go_wp2_with fail;refine(Ku.o _).mono ?_;rintro e w' ⟨rfl,rfl⟩;go_wp2_with fail;refine(M8.o _).mono ?_;rintro e w' ⟨rfl,rfl⟩;go_wp2_with fail;refine(I.o _).mono ?_;rintro e w' ⟨A,rfl⟩;simp only [lQ] at A;subst A;go_wp2;refine bodyPost_ret (Ei rfl _ rfl (xL w _) underlying121 Em) rfl ?_
  exact⟨Zq w _,by decide,rfl⟩
 | some sr =>
  obtain⟨h,O⟩:=sr;rw [ho] at j;rw [Nat.zero_add,ho] at J
  have C:R=if 256<h.length then Rd.bad 2 else Rd.tok 4 h O:=J
  have I:=Za j;have Z:=Za C;clear Kj Y V hd A hR j ho J C;go_enter func71,z;go_wp2_with fail;refine(Ku.o _).mono ?_;rintro e w' ⟨rfl,rfl⟩;go_wp2_with fail;refine(M8.o _).mono ?_;rintro e w' ⟨rfl,rfl⟩;go_wp2_with fail;refine(I.o _).mono ?_;rintro e w' ⟨A,rfl⟩;obtain⟨m,Kk,Su,A5,rfl⟩:=A
  have m0:((m:Int) == 0)=false:=by simp; omega
  obtain⟨T,hT⟩:∃ T:ByteArray,T=⟨h.toArray⟩:=⟨_,rfl⟩
  have N:T.size=h.length:=by rw [hT,bQ]
  rw [<- hT];have HTT:=Za hT;have Ot:=Za A5;clear hT A5;by_cases F:256<h.length
  ·have M:=Z.o
   rw [if_pos F] at M;subst M
   have H:(256:Int)<(T.size:Int):=by omega
   clear N Z;go_wp2;refine bodyPost_ret (Ei rfl _ rfl (xL w _) underlying121 Em) rfl ?_;exact⟨Zq w _,by decide,rfl⟩
  ·have M:=Z.o
   rw [if_neg F] at M;subst M
   have H:¬ (256:Int)<(T.size:Int):=by omega
   clear N Z;go_wp2;refine bodyPost_ret (Ei rfl _ rfl (xL w _) underlying121 Em) rfl ?_;exact⟨Zq w _,m,by omega,Su,Ot.o,by rw [HTT.o]; rfl⟩
theorem zjq (S:bA) (h0:0<S.size) (hS:S.size<=65536) (H:Tw S[0]=false) (T:Xh S[0]=false) (Z:¬ S[0]=34) (w:World):Calls prog 71 #[.string S] w (vJ S w (U1 S.data.toList)):=by
 have C:=Oe (k:=0) h0
 rw [List.drop_zero,H,T,if_neg (by decide),if_neg (by decide),if_neg Z] at C
 have V:=Cl S[0]
 have J:=Rq S[0]
 rw [H] at V
 rw [T] at J
 have Ku:=Za V
 have M8:=Za J
 have O:=zij S h0 hS
 have N:=pQ S.data.toList
 rw [Wz] at N
 obtain⟨R,hR⟩:=xE (U1 S.data.toList)
 rw [<- hR] at C ⊢
 have p1:((S[0].toNat:Int) == 34)=false:=by
  rw [beq_eq_false_iff_ne];intro e;exact Z (UInt8.toNat_inj.1 (by show S[0].toNat=34; omega))
 have h0I:(0:Int)<(S.size:Int):=by omega
 obtain⟨n,hn⟩:=xE (U9 S.data.toList)
 rw [<- hn] at O N C
 have I:=Za O
 have F:=Za C
 have nI:(n:Int)<=(S.size:Int):=by omega
 clear V J H T Z hR O C hn
 go_enter func71,ntmps71
 go_wp2_with fail
 refine(Ku.o _).mono ?_
 rintro e w' ⟨rfl,rfl⟩
 go_wp2_with fail
 refine(M8.o _).mono ?_
 rintro e w' ⟨rfl,rfl⟩
 go_wp2_with fail
 refine(I.o _).mono ?_
 rintro e w2 ⟨rfl,Y⟩
 have h:=rZ Y
 have j:=Za h
 have c0:=h.c0
 have c1:=h.c1
 have c2:=h.c2
 have c3:=h.c3
 have f0:=h.fz 0
 have f1:=h.fz 1
 have f2:=h.fz 2
 have f3:=h.fz 3
 have Xa:=Za (Zz (Zq w _) Y)
 clear h Y
 by_cases A:n=0
 ·have z:=F.o
  rw [if_pos A] at z;subst z
  have z1:((n:Int) == 0)=true:=by rw [A]; rfl
  clear F A;go_wp2;refine bodyPost_ret (Ei rfl _ rfl (j.o.set _ _ _ _) underlying121 Em) rfl ?_;exact⟨Rp Xa.o _ _ _ _,by decide,rfl⟩
 ·have z:=F.o
  rw [if_neg A,Nat.zero_add] at z;subst z
  have z1:((n:Int) == 0)=false:=by simp; omega
  have M:0<n:=by omega
  clear F A;go_wp2;refine bodyPost_ret (Ei rfl _ rfl (j.o.set _ _ _ _) underlying121 Em) rfl ?_;refine⟨Rp Xa.o _ _ _ _,n,M,N,rfl,?_⟩;rw [Il,List.drop_zero,Nat.sub_zero];rfl
theorem zjn (S:bA) (j:0<S.size) (h:S.size<=65536) (w:World):Calls prog 71 #[.string S] w (vJ S w (U1 S.data.toList)):=by
 cases hl:Tw S[0]
 ·cases hd:Xh S[0]
  ·by_cases z:S[0]=34
   ·exact zjr S j h hl hd z w
   ·exact zjq S j h hl hd z w
  ·exact zjo S j h hd w
 ·exact zjp S j h hl w
end Lx
namespace Lx
/-! What a token is. -/
def wO (p:Nat×Nat) (b:UInt8):Nat×Nat:=if b=10 then(p.1+1,1)else(p.1,p.2+1)
def Fm (c:bS) (p:Nat×Nat):Nat×Nat:=c.foldl wO p
theorem sE (c d:bS) (p:Nat×Nat):Fm (c ++ d) p=Fm d (Fm c p):=List.foldl_append ..
end Lx
namespace Lx
open Go.RowKit
def tH (l:bS) (n:Nat):Prop:=n<=l.length/\∀ p:Nat×Nat,Vf false l p.1 p.2=(l.drop n,Fm (l.take n) p)
def Hu (c:Bool) (S:bA) (i:Nat):Prop:=∀ p:Nat×Nat,Vf false S.data.toList p.1 p.2=Vf c (S.data.toList.drop i) (Fm (S.data.toList.take i) p).1 (Fm (S.data.toList.take i) p).2
theorem sF {S:bA} {i:Nat} (j:i<S.size) (p:Nat×Nat):Fm (S.data.toList.take (i+1)) p=wO (Fm (S.data.toList.take i) p) S[i]:=by
 have h:i<S.data.toList.length:=by rw [Wz]; exact j
 rw [List.take_succ_eq_append_getElem h,sE]
 rfl
section
variable {S : bA} {i : Nat}
theorem zdw:Hu false S 0:=fun p=>by simp [Fm]
theorem zdv (h:Hu false S i) (j:i<S.size) (z:S[i].toNat=35):Hu true S i:=fun p=>by
 have e:S[i]=35:=UInt8.toNat_inj.1 z
 rw [h p,Ue S i j,e]
 simp [Vf]
theorem mid_on (h:Hu true S i) (j:i<S.size) (z:S[i].toNat≠10):Hu true S (i+1):=fun p=>by
 have e:¬ S[i]=10:=fun e=>z (by rw [e]; rfl)
 rw [h p,sF j,Ue S i j,Vf,if_neg e,wO,if_neg e]
theorem zdt (h:Hu true S i) (j:i<S.size) (z:S[i].toNat=10):Hu false S i:=fun p=>by
 have e:S[i]=10:=UInt8.toNat_inj.1 z
 rw [h p,Ue S i j,e]
 simp [Vf]
theorem zdu (h:Hu true S i) (hi:¬ i<S.size):Hu false S i:=fun p=>by
 rw [h p,List.drop_eq_nil_of_le (by rw [Wz]; omega)]
 simp [Vf]
theorem zdr (h:Hu false S i) (z:i<S.size) (j:S[i].toNat=32∨S[i].toNat=9∨S[i].toNat=10∨S[i].toNat=13):Hu false S (i+1):=fun p=>by
 rw [h p,sF z,Ue S i z,Vf,wO]
 by_cases e:S[i]=10
 ·rw [if_pos e,if_pos e]
 ·have A:S[i]=32∨S[i]=9∨S[i]=13:=by
   rcases j with j | j | j | j
   ·exact .inl (UInt8.toNat_inj.1 j)
   ·exact .inr (.inl (UInt8.toNat_inj.1 j))
   ·exact absurd (UInt8.toNat_inj.1 j) e
   ·exact .inr (.inr (UInt8.toNat_inj.1 j))
  rw [if_neg e,if_neg e,if_pos A]
theorem zdx (h:Hu false S i) (A:i<S.size) (j:S[i].toNat≠10/\S[i].toNat≠32/\S[i].toNat≠9/\S[i].toNat≠13/\S[i].toNat≠35):tH S.data.toList i:=by
 have f:∀ n:UInt8,S[i].toNat≠n.toNat->¬ S[i]=n:=fun n z e=>z (by rw [e])
 refine⟨by rw [Wz]; omega,fun p=>?_⟩
 rw [h p,Ue S i A,Vf,if_neg (f 10 j.1),if_neg,if_neg (f 35 j.2.2.2.2)]
 rintro(e | e | e)
 ·exact f 32 j.2.1 e
 ·exact f 9 j.2.2.1 e
 ·exact f 13 j.2.2.2.1 e
theorem zds (h:Hu false S i) (hi:¬ i<S.size) (Px:i<=S.size):tH S.data.toList i:=by
 refine⟨by rw [Wz]; omega,fun p=>?_⟩
 rw [h p,List.drop_eq_nil_of_le (by rw [Wz]; omega)]
 simp [Vf]
end
theorem oH (S:bA) (hS:S.size<=65536) (w:World):Calls prog 70 #[.string S] w fun e w'=>(∃ n:Nat,e = .returned (iP n)/\tH S.data.toList n)/\w'=w:=by
 go_enter func70,ntmps70
 go_wp2
 go_loop [3] (fun i=>∃ k:Nat,k<=S.size/\i=iP k/\xQ (Hu false S k)) (fun i=>S.size - (intOf i).toNat)
 case atStart=>exact⟨0,xZ _,rfl,zdw⟩
 case round =>
  obtain⟨k,M,rfl,hm⟩:=hrel;by_cases H:k<S.size
  ·have Cd:(k:Int)<(S.size:Int):=by omega
   by_cases b1:S[k].toNat=35
   ·have F:((S[k].toNat:Int) == 35)=true:=by simp; omega
    have T:=Za (zdv hm.o H b1);have V:=Za b1;clear b1;go_wp2
    go_loop [3] (fun i=>∃ m:Nat,k<=m/\m<=S.size/\i=iP m/\xQ (Hu true S m)) (fun i=>S.size - (intOf i).toNat)
    case atStart=>exact⟨k,xR,M,rfl,T⟩
    case round =>
     obtain⟨m,hkm,N,rfl,A⟩:=hrel;by_cases h:m<S.size
     ·have z:(m:Int)<(S.size:Int):=by omega
      by_cases b2:S[m].toNat=10
      ·have C:((S[m].toNat:Int) != 10)=false:=by simp; omega
       have j:=Za (zdt A.o h b2)
       have hkm2:k<m:=by
        by_cases e:m=k
        ·subst e
         have:=V.o;omega
        ·omega
       clear b2;go_wp2
       go_round
       case rel=>exact⟨m,N,rfl,j⟩
       case measure=>simp [intOf]; omega
      ·have C:((S[m].toNat:Int) != 10)=true:=by simp; omega
       have j:=Za (mid_on A.o h b2);clear b2;go_wp2
       go_round
       case rel=>exact⟨m+1,by omega,by omega,by go_num,j⟩
       case measure=>simp [intOf]; omega
     ·have z:¬ (m:Int)<(S.size:Int):=by omega
      have j:=Za (zdu A.o h);go_wp2
      go_round
      case rel=>exact⟨m,N,rfl,j⟩
      case measure=>simp [intOf]; omega
   have n1:((S[k].toNat:Int) == 35)=false:=by simp; omega
   by_cases b2:S[k].toNat=32∨S[k].toNat=9∨S[k].toNat=10∨S[k].toNat=13
   ·have j:=Za (zdr hm.o H b2)
    have J:((S[k].toNat:Int) != 32)=false∨(((S[k].toNat:Int) != 32)=true/\((S[k].toNat:Int) != 9)=false)∨(((S[k].toNat:Int) != 32)=true/\((S[k].toNat:Int) != 9)=true/\((S[k].toNat:Int) != 10)=false) ∨
      (((S[k].toNat:Int) != 32)=true/\((S[k].toNat:Int) != 9)=true/\((S[k].toNat:Int) != 10)=true/\((S[k].toNat:Int) != 13)=false):=by simp; omega
    clear b2 b1;rcases J with F | ⟨F,C⟩ | ⟨F,C,O⟩ | ⟨F,C,O,Y⟩
    all_goals
     go_wp2
     go_round
     case rel=>exact⟨k+1,by omega,by go_num,j⟩
     case measure=>simp [intOf]; omega
   ·have I:=Za (zdx hm.o H ⟨by omega,by omega,by omega,by omega,b1⟩)
    have F:((S[k].toNat:Int) != 32)=true:=by simp; omega
    have C:((S[k].toNat:Int) != 9)=true:=by simp; omega
    have O:((S[k].toNat:Int) != 10)=true:=by simp; omega
    have Y:((S[k].toNat:Int) != 13)=true:=by simp; omega
    clear b1 b2;go_wp2;go_ret;exact⟨⟨k,rfl,I.o⟩,rfl⟩
  ·have I:=Za (zds hm.o H M)
   go_wp2;go_ret;exact⟨⟨k,rfl,I.o⟩,rfl⟩
end Lx
end Go.Proofs.YtoppemkjhhlegaaGreatDoor
