/- Part. -/
import Derived.Test.YtoppemkjhhlegaaGreatDoorPart23
set_option maxRecDepth 100000
set_option maxHeartbeats 4000000
namespace Go.Proofs.YtoppemkjhhlegaaGreatDoor
open Go.Proofs.Tryz
namespace Lx
open Go.RowKit
theorem zlb (w:wD):Calls prog 53 #[] w fun e w'=>e = .returned (lP w.heap.size 25 25)/\Below w.heap.size w w'/\∀ i,i<25->w'.cell? (aP w.heap.size i)=some (.string (wordB i)):=by
 go_enter func53,ntmps53
 go_wp2
 go_ret
 refine⟨rfl,Zq w _,?_⟩
 intro i j
 rw [cell_of_row _ _ i _ _ (0,0) (xL w _)]
 match i,j with
 | 0,_=>rfl
 | 1,_=>rfl
 | 2,_=>rfl
 | 3,_=>rfl
 | 4,_=>rfl
 | 5,_=>rfl
 | 6,_=>rfl
 | 7,_=>rfl
 | 8,_=>rfl
 | 9,_=>rfl
 | 10,_=>rfl
 | 11,_=>rfl
 | 12,_=>rfl
 | 13,_=>rfl
 | 14,_=>rfl
 | 15,_=>rfl
 | 16,_=>rfl
 | 17,_=>rfl
 | 18,_=>rfl
 | 19,_=>rfl
 | 20,_=>rfl
 | 21,_=>rfl
 | 22,_=>rfl
 | 23,_=>rfl
 | 24,_=>rfl
 | n+25,h=>exact absurd h (by omega)
theorem cO (s:bA) (w:wD):Calls prog 41 #[.string s] w fun e w'=>e = .returned (.bool (P5.contains s.data.toList))/\Below w.heap.size w w':=by
 obtain⟨b,C⟩:=xE (P5.contains s.data.toList)
 rw [<- C]
 have J:=Za C
 clear C
 go_enter func41,ntmps41
 go_wp2_with fail
 refine(zlb _).mono ?_
 rintro e w1 ⟨rfl,O,M⟩
 have I:=Za O
 have Y:=Za M
 clear O M
 go_wp2
 go_loop [4] (fun i=>∃ k:Nat,k<=25/\i=iP k/\xQ (pB s k)) (fun i=>25 - (intOf i).toNat)
 case atStart=>exact⟨0,by omega,rfl,fun i T=>by omega⟩
 case round =>
  obtain⟨k,hk,rfl,N⟩:=hrel;by_cases F:k<25
  ·have z:=Y.o k F
   obtain⟨t,A⟩:=xE (wordB k);rw [<- A] at z;have H:=Za A;clear A
   have hkI:(k:Int)<25:=by omega
   cases hq:(t.toList == s.toList)
   ·have V:xQ (pB s (k+1)):=fun i T=>by
     by_cases j:i=k
     ·subst j; rw [<- H.o]; exact(uY hq).symm
     ·exact N.o i (by omega)
    go_wp2
    go_round
    case rel=>exact⟨k+1,by omega,by go_num,V⟩
    case measure=>simp [intOf]; omega
   ·have e:b=true:=by
     rw [J.o];exact(mH s).2 ⟨k,F,(Cs.1 hq).symm.trans H.o⟩
    subst e;go_wp2;go_ret;exact⟨rfl,I.o⟩
  ·have e:b=false:=by
    rw [J.o,Bool.eq_false_iff];intro h;obtain⟨i,T,e⟩:=(mH s).1 h;exact N.o i (by omega) e
   subst e;go_wp2;go_ret;exact⟨rfl,I.o⟩
theorem uD {b:UInt8} (h:Xh b=true):Tw b=false:=by
 unfold Xh at h
 unfold Tw
 simp at h ⊢
 omega
def qZ (S:bA) (k:Nat):Prop:=∀ i (h:i<S.size),i<k->Xm S[i]=true
theorem nm_all {S:bA} (h:qZ S S.size):S.data.toList.all Xm=true:=by
 rw [List.all_eq_true]
 intro b A
 obtain⟨i,z,e⟩:=List.mem_iff_getElem.1 A
 have j:i<S.size:=by rw [<- Wz]; exact z
 have:=h i j j
 rw [<- e]
 exact this
theorem nm_not {S:bA} {k:Nat} (z:k<S.size) (h:Xm S[k]=false):S.data.toList.all Xm=false:=by
 rw [Bool.eq_false_iff]
 intro ha
 rw [List.all_eq_true] at ha
 have:=ha S[k] (by
  have j:k<S.data.toList.length:=by rw [Wz]; exact z
  exact List.getElem_mem j)
 rw [h] at this
 cases this
theorem nameR_c (S:bA) (hS:S.size<=140737488351232) (w:wD):Calls prog 28 #[.string S] w fun e w'=>e = .returned (.bool (Gj S.data.toList))/\Below w.heap.size w w':=by
 have j:=cO S
 by_cases M:S.size=0
 ·have z1:((S.size:Int) == 0)=true:=by rw [beq_iff_eq]; omega
  rw [dG M];generalize P5.contains S.data.toList=b at j;have A:=Za j;clear j M;go_enter func28,ntmps28;go_wp2_with fail;refine(A.o _).mono ?_;rintro e w1 ⟨rfl,h⟩;have z:=Za h;clear h;go_wp2;go_ret;exact⟨rfl,z.o⟩
 have V:0<S.size:=by omega
 have z1:((S.size:Int) == 0)=false:=by rw [beq_eq_false_iff_ne]; omega
 rw [dF V]
 by_cases hl:32<S.size
 ·have I:decide (S.size<=32)=false:=by simp; omega
  rw [I];simp only [Bool.false_and];generalize P5.contains S.data.toList=b at j;have A:=Za j;clear j M I
  have Y:(32:Int)<(S.size:Int):=by omega
  go_enter func28,ntmps28;go_wp2_with fail;refine(A.o _).mono ?_;rintro e w1 ⟨rfl,h⟩;have z:=Za h;clear h;go_wp2;go_ret;exact⟨rfl,z.o⟩
 have I:decide (S.size<=32)=true:=by simp; omega
 rw [I]
 have Y:¬ (32:Int)<(S.size:Int):=by omega
 have h0I:(0:Int)<(S.size:Int):=by omega
 clear I M
 cases hq:P5.contains S.data.toList
 case true =>
  rw [hq] at j;have A:=Za j;clear j hq;simp only [Bool.not_true,Bool.and_false];go_enter func28,ntmps28;go_wp2_with fail;refine(A.o _).mono ?_;rintro e w1 ⟨rfl,h⟩;have z:=Za h;clear h;go_wp2;go_ret;exact⟨rfl,z.o⟩
 case false =>
  rw [hq] at j;have A:=Za j;clear j hq;have F:=Rq S[0];cases Mh:Xh S[0]
  case true =>
   rw [Mh] at F;rw [uD Mh];have Z:=Za F;clear F Mh;simp only [Bool.false_and,Bool.and_false];go_enter func28,ntmps28;go_wp2_with fail;refine(A.o _).mono ?_;rintro e w1 ⟨rfl,h⟩;have z:=Za h;clear h;go_wp2_with fail;refine(Z.o _).mono ?_;rintro e w' ⟨rfl,rfl⟩;go_wp2;go_ret;exact⟨rfl,z.o⟩
  case false =>
   rw [Mh] at F;have Z:=Za F;have M8:=Za Mh;clear F Mh;obtain⟨r,T⟩:=xE ((true && Tw S[0] && S.data.toList.all Xm && !false));rw [<- T];have HR:=Za T;clear T;go_enter func28,ntmps28;go_wp2_with fail;refine(A.o _).mono ?_;rintro e w1 ⟨rfl,h⟩;have z:=Za h;clear h;go_wp2_with fail;refine(Z.o _).mono ?_;rintro e w' ⟨rfl,rfl⟩;go_wp2
   go_loop [4] (fun i=>∃ k:Nat,k<=S.size/\i=iP k/\xQ (qZ S k)) (fun i=>S.size - (intOf i).toNat)
   case atStart=>exact⟨0,xZ _,rfl,fun i _ J=>by omega⟩
   case round =>
    obtain⟨k,hk,rfl,Mj⟩:=hrel;by_cases Zt:k<S.size
    ·have Cd:(k:Int)<(S.size:Int):=by omega
     have C:=Cl S[k];have H:=Rq S[k]
     cases ha:Tw S[k] <;> cases hb:Xh S[k]
     case false.false =>
      rw [ha] at C;rw [hb] at H
      have e:r=false:=by
       rw [HR.o,nm_not Zt (by simp [Xm,ha,hb])];simp
      have Mz:=Za C;have Jq:=Za H;clear C H ha hb;subst e;go_wp2_with fail;refine(Mz.o _).mono ?_;rintro e w' ⟨rfl,rfl⟩;go_wp2_with fail;refine(Jq.o _).mono ?_;rintro e w' ⟨rfl,rfl⟩;go_wp2;go_ret;exact⟨rfl,z.o⟩
     all_goals
      rw [ha] at C;rw [hb] at H
      have U6:Xm S[k]=true:=by simp [Xm,ha,hb]
      have N:xQ (qZ S (k+1)):=fun i J hik=>by
       by_cases e:i=k
       ·subst e; exact U6
       ·exact Mj.o i J (by omega)
      have Mz:=Za C;have Jq:=Za H;clear C H ha hb U6;go_wp2_with fail;refine(Mz.o _).mono ?_;rintro e w' ⟨rfl,rfl⟩;go_wp2_with fail;refine(Jq.o _).mono ?_;rintro e w' ⟨rfl,rfl⟩;go_wp2
      go_round
      case rel=>exact⟨k+1,by omega,by go_num,N⟩
      case measure=>simp [intOf]; omega
    ·have e:r=true:=by
      have Kh:qZ S S.size:=fun i J _=>Mj.o i J (by omega)
      have O:=Kh 0 V V;have h2:=M8.o;unfold Xm at O;rw [h2,Bool.or_false] at O;rw [HR.o,nm_all Kh,O];rfl
     subst e;go_wp2;go_ret;exact⟨rfl,z.o⟩
def zW (i:Nat):ByteArray:=⟨#[(Gq.getD i (0,0)).1,(Gq.getD i (0,0)).2]⟩
theorem jE {S:bA} (h:2<=S.size):S.extract 0 2=⟨#[S[0],S[1]]⟩:=by
 rw [Il,List.drop_zero]
 have e:=Ue S 0 (by omega)
 rw [List.drop_zero,Ue S 1 (by omega)] at e
 rw [e]
 rfl
theorem fV {S:bA} (h:2<=S.size):S.data.toList=S[0] :: S[1] :: S.data.toList.drop 2:=by
 have e:=Ue S 0 (by omega)
 rw [List.drop_zero,Ue S 1 (by omega)] at e
 exact e
theorem eE (a b:UInt8):Gq.contains (a,b)=true↔∃ i,i<8/\(⟨#[a,b]⟩:bA)=zW i:=by
 rw [List.contains_iff_mem]
 constructor
 ·intro h
  obtain⟨i,j,e⟩:=List.mem_iff_getElem.1 h;refine⟨i,j,?_⟩;unfold zW;rw [List.getD_eq_getElem?_getD,List.getElem?_eq_getElem j,Option.getD_some,e]
 ·rintro⟨i,j,e⟩
  unfold zW at e;rw [List.getD_eq_getElem?_getD,List.getElem?_eq_getElem (show i<Gq.length from j),Option.getD_some] at e;simp only [ByteArray.mk.injEq,Array.mk.injEq,List.cons.injEq,and_true] at e
  have:(a,b)=Gq[i]'j:=by rw [e.1,e.2]; rfl
  rw [this];exact List.getElem_mem ..
def pA (S:bA) (k:Nat):Prop:=∀ i,i<k->¬ (2<=S.size/\S.extract 0 2=zW i)
theorem zij {S:bA} {i:Nat} (h:2<=S.size) (j:i<8) (e:S.extract 0 2=zW i):U9 S.data.toList=2:=by
 rw [jE h] at e
 rw [fV h,U9,if_pos ((eE _ _).2 ⟨i,j,e⟩)]
theorem zii {S:bA} (h:0<S.size) (A:pA S 8):U9 S.data.toList=if A9.contains S[0] then 1 else 0:=by
 by_cases j:2<=S.size
 ·rw [fV j,U9,if_neg]
  rw [eE];rintro⟨i,z,e⟩;exact A i z ⟨j,by rw [jE j]; exact e⟩
 ·have e:=Ue S 0 h
  rw [List.drop_zero,List.drop_eq_nil_of_le (by rw [Wz]; omega)] at e;rw [e,U9]
def nV (O:bA) (b:UInt8) (k:Nat):Prop:=∀ i (h:i<O.size),i<k->b≠O[i]
theorem one_no {O:bA} {b:UInt8} (C:O.data.toList=A9) (h:nV O b O.size):A9.contains b=false:=by
 rw [Bool.eq_false_iff]
 intro j
 rw [List.contains_iff_mem,<- C] at j
 obtain⟨i,A,e⟩:=List.mem_iff_getElem.1 j
 have z:i<O.size:=by rw [<- Wz]; exact A
 exact h i z z e.symm
theorem zew {O:bA} {b:UInt8} {i:Nat} (j:O.data.toList=A9) (h:i<O.size) (e:b=O[i]):A9.contains b=true:=by
 rw [List.contains_iff_mem,<- j,e]
 have z:i<O.data.toList.length:=by rw [Wz]; exact h
 exact List.getElem_mem z
theorem E4 {B:Nat} {a w:wD} (h:Below B a w) (n:Nat):Below B a (w.drewN n):=⟨h.os,h.tape,h.output,h.size,h.block⟩
theorem zjx (w:wD) (h:TypeId):∀ i,i<8->(w.alloc (.cells #[.string { data:=#[45,62] },.string { data:=#[61,62] },.string { data:=#[60,58] },.string { data:=#[60,60] },.string { data:=#[60,61] },.string { data:=#[62,62] },.string { data:=#[61,61] },.string { data:=#[43,43] }] h)).cell? (aP w.heap.size i)=some (.string (zW i)):=by
 intro i j
 rw [cell_of_row _ _ i _ h (0,0) (xL w _)]
 match i,j with
 | 0,_=>rfl
 | 1,_=>rfl
 | 2,_=>rfl
 | 3,_=>rfl
 | 4,_=>rfl
 | 5,_=>rfl
 | 6,_=>rfl
 | 7,_=>rfl
theorem zil (S:bA) (h0:0<S.size) (hS:S.size<=65536) (w:wD):Calls prog 95 #[.string S] w fun e w'=>e = .returned (iP (U9 S.data.toList))/\Below w.heap.size w w':=by
 obtain⟨r,T⟩:=xE (U9 S.data.toList)
 rw [<- T]
 have Z:=Za T
 clear T
 have Wu:=zjx w 9
 have Yo:=Zq w (.cells #[.string { data:=#[45,62] },.string { data:=#[61,62] },.string { data:=#[60,58] },.string { data:=#[60,60] },.string { data:=#[60,61] },.string { data:=#[62,62] },.string { data:=#[61,61] },.string { data:=#[43,43] }] 9)
 have h0I:(0:Int)<(S.size:Int):=by omega
 obtain⟨O,M⟩:∃ O:ByteArray,O={ data:=#[40,41,123,125,91,93,44,58,59,61,43,45,42,47,37,38,94,60,124,46] }:=⟨_,rfl⟩
 have hOs:O.size=20:=by rw [M]; rfl
 have I:xQ (O.data.toList=A9):=by show _=_; rw [M]; rfl
 have HO:=Za M
 have HOS:=Za hOs
 clear M
 go_enter func95,ntmps95
 go_wp2
 generalize hw1:w.alloc _=w1 at Wu Yo ⊢
 have HC:=Za Wu
 have F:=Za Yo
 clear Wu Yo hw1
 go_loopw [4] (fun i wr=>∃ k n:Nat,k<=8/\i=iP k/\wr=w1.drewN n/\xQ (pA S k)) (fun i _=>8 - (intOf i).toNat)
 case atStart=>exact⟨0,0,by omega,rfl,rfl,fun i z=>by omega⟩
 case round =>
  obtain⟨k,n,hk,rfl,rfl,Ph⟩:=hrel;by_cases Zt:k<8
  ·have hkI:(k:Int)<8:=by omega
   have c:=HC.o k Zt;obtain⟨U,V⟩:=xE (zW k);rw [<- V] at c;have HU:=Za V;clear V;by_cases h2:2<=S.size
   ·have Y:(2:Int)<=(S.size:Int):=by omega
    cases C:((S.extract 0 2).toList == U.toList)
    ·have H:xQ (pA S (k+1)):=fun i z=>by
      by_cases J:i=k
      ·subst J; rw [<- HU.o]; exact fun h=>uY C h.2
      ·exact Ph.o i (by omega)
     go_wp2
     go_quiet(fail)
     go_wp2
     go_roundw
     case rel=>exact⟨k+1,_,by omega,by go_num,rfl,H⟩
     case measure=>simp [intOf]; omega
    ·have e:r=2:=by
      rw [Z.o];exact zij h2 Zt ((Cs.1 C).trans HU.o)
     subst e;go_wp2
     go_quiet(fail)
     go_wp2;go_ret;exact⟨rfl,by first | exact E4 F.o _ | exact E4 (E4 F.o _) _⟩
   ·have Y:decide ((2:Int)<=(S.size:Int))=false:=by simp; omega
    have H:xQ (pA S (k+1)):=fun i z h=>h2 h.1
    go_wp2
    go_quiet(fail)
    go_wp2
    go_roundw
    case rel=>exact⟨k+1,_,by omega,by go_num,rfl,H⟩
    case measure=>simp [intOf]; omega
  ·have Xq:=Za (zii h0 (fun i z=>Ph.o i (by omega)))
   go_wp2;rw [<- HO.o]
   go_loopw [6] (fun i wr=>∃ k n:Nat,k<=20/\i=iP k/\wr=w1.drewN n/\xQ (nV O S[0] k)) (fun i _=>20 - (intOf i).toNat)
   case atStart=>exact⟨0,_,by omega,rfl,rfl,fun i _ z=>by omega⟩
   case round =>
    obtain⟨j,n2,hj,rfl,rfl,A⟩:=hrel;by_cases hltj:j<20
    ·have N:j<O.size:=by omega
     have hjI:(j:Int)<(O.size:Int):=by omega
     by_cases C:S[0].toNat=O[j].toNat
     ·have p:((S[0].toNat:Int) == (O[j].toNat:Int))=true:=by simp; omega
      have e:r=1:=by
       rw [Z.o,Xq.o,zew I.o N (UInt8.toNat_inj.1 C)];rfl
      subst e;clear C;go_wp2
      go_quiet(fail)
      go_wp2;go_ret;exact⟨rfl,by first | exact E4 F.o _ | exact E4 (E4 F.o _) _⟩
     ·have p:((S[0].toNat:Int) == (O[j].toNat:Int))=false:=by simp; omega
      have H:xQ (nV O S[0] (j+1)):=fun i z J=>by
       by_cases e:i=j
       ·subst e; exact fun e2=>C (by rw [e2])
       ·exact A.o i z (by omega)
      clear C;go_wp2
      go_quiet(fail)
      go_wp2
      go_roundw
      case rel=>exact⟨j+1,_,by omega,by go_num,rfl,H⟩
      case measure=>simp [intOf]; omega
    ·have hjI:¬ (j:Int)<(O.size:Int):=by omega
     have e:r=0:=by
      rw [Z.o,Xq.o,one_no I.o (fun i z _=>A.o i z (by omega))];rfl
     subst e;go_wp2;go_ret;exact⟨rfl,by first | exact E4 F.o _ | exact E4 (E4 F.o _) _⟩
end Lx
namespace Lx

end Lx
namespace Lx
open Go.RowKit
theorem uW (T U:bA):(T ++ U).data.toList=T.data.toList ++ U.data.toList:=by simp
theorem uX (T U:bA):(T ++ U).size=T.size+U.size:=by simp [ByteArray.size_append]
theorem mU {S:bA} {k:Nat} (h:k<S.size):(S.extract k (k+1)).data.toList=[S[k]]:=by
 rw [Il,Nat.add_sub_cancel_left,Ue S k h]
 rfl
theorem jD {S:bA} {k:Nat} (h:k<S.size):(S.extract k (k+1)).size=1:=by
 rw [<- Wz,mU h]
 rfl
def lT (S:bA) (o:Option (bS×bS)) (e:Ending):Prop :=
 match o with
 | none=>e = .returned (.tuple #[.string { data:=#[] },iP 0])
 | some (said,rest)=>∃ m:Nat,1<m/\m<=S.size/\rest=S.data.toList.drop m/\e = .returned (.tuple #[uP said,iP m])
theorem zgb (S:bA) (hS:S.size<=65536) (w:wD):Calls prog 94 #[.string S] w fun e w'=>lT S (Qi S 1 []) e/\w'=w:=by
 obtain⟨o,J⟩:=xE (Qi S 1 [])
 rw [<- J]
 have C:=Za J
 clear J
 go_enter func94,ntmps94
 go_wp2
 go_loop [4,5] (fun v i=>∃ (m:Nat) (T:bA),1<=m/\m<=S.size+1/\i=iP m/\v = .string T/\T.size<=m/\xQ (o=Qi S m T.data.toList)) (fun _ i=>S.size+1 - (intOf i).toNat)
 case atStart=>exact⟨1,_,xR,by omega,rfl,rfl,by decide,C.o⟩
 case round =>
  obtain⟨m,T,Kk,Dk,rfl,rfl,hT,hrel⟩:=hrel;by_cases F:m<S.size
  ·have Z:(m:Int)<(S.size:Int):=by omega
   by_cases b1:S[m].toNat=34
   ·have p1:((S[m].toNat:Int) == 34)=true:=by simp; omega
    have e:=hrel.o.trans (rL F b1);subst e;clear b1 hrel C;go_wp2
    go_ret2
    exact⟨⟨m+1,by omega,by omega,rfl,rfl⟩,rfl⟩
   have n1:((S[m].toNat:Int) == 34)=false:=by simp; omega
   by_cases b2:S[m].toNat<32
   ·have p2:(S[m].toNat:Int)<32:=by omega
    have e:=hrel.o.trans (rI F b2);subst e;clear b1 b2 hrel C;go_wp2
    go_ret2
    exact⟨rfl,rfl⟩
   have n2:¬ (S[m].toNat:Int)<32:=by omega
   by_cases b3:S[m].toNat=92
   ·have p3:((S[m].toNat:Int) != 92)=false:=by simp; omega
    by_cases H:m+1<S.size
    ·have I:¬ (S.size:Int)<=(m:Int)+1:=by omega
     have hl1J:(m:Int)+1<(S.size:Int):=by omega
     have z:=Za (mU H);have M:=jD H
     have O:(m:Int)+1+1<=(S.size:Int):=by omega
     have Y:(m:Int)+1<=(m:Int)+1+1:=by omega
     have h:=fun x=>rO (acc:=T.data.toList) (x:=x) F b3 H
     have j:=rJ (acc:=T.data.toList) F b3 H;by_cases c1:S[m+1].toNat=92
     ·have q1:((S[m+1].toNat:Int) == 92)=true:=by simp; omega
      have A:S[m+1]=92:=UInt8.toNat_inj.1 c1
      have E:xQ (o=Qi S (m+2) (T ++ S.extract (m+1) (m+1+1)).data.toList):=by
       show _=_;rw [uW,z.o,A,hrel.o];exact h 92 (by rw [A]; rfl)
      clear c1 A b1 b2 b3 h j hrel C z;go_wp2
      go_round
      case rel=>exact⟨m+2,_,by omega,by omega,by go_num,rfl,by rw [uX]; omega,E⟩
      case measure=>simp [intOf]; omega
     have r1:((S[m+1].toNat:Int) == 92)=false:=by simp; omega
     by_cases c2:S[m+1].toNat=34
     ·have q2:((S[m+1].toNat:Int) == 34)=true:=by simp; omega
      have A:S[m+1]=34:=UInt8.toNat_inj.1 c2
      have E:xQ (o=Qi S (m+2) (T ++ S.extract (m+1) (m+1+1)).data.toList):=by
       show _=_;rw [uW,z.o,A,hrel.o];exact h 34 (by rw [A]; rfl)
      clear c1 c2 A b1 b2 b3 h j hrel C z;go_wp2
      go_round
      case rel=>exact⟨m+2,_,by omega,by omega,by go_num,rfl,by rw [uX]; omega,E⟩
      case measure=>simp [intOf]; omega
     have r2:((S[m+1].toNat:Int) == 34)=false:=by simp; omega
     by_cases c3:S[m+1].toNat=110
     ·have q3:((S[m+1].toNat:Int) == 110)=true:=by simp; omega
      have A:S[m+1]=110:=UInt8.toNat_inj.1 c3
      have E:xQ (o=Qi S (m+2) (T ++ { data:=#[10] }).data.toList):=by
       show _=_;rw [uW,hrel.o];exact h 10 (by rw [A]; rfl)
      have N:(T ++ { data:=#[10] }:bA).size<=m+2:=by rw [uX]; show T.size+1<=m+2; omega
      clear c1 c2 c3 A b1 b2 b3 h j hrel C z;go_wp2
      go_round
      case rel=>exact⟨m+2,_,by omega,by omega,by go_num,rfl,N,E⟩
      case measure=>simp [intOf]; omega
     have r3:((S[m+1].toNat:Int) == 110)=false:=by simp; omega
     by_cases c4:S[m+1].toNat=116
     ·have q4:((S[m+1].toNat:Int) == 116)=true:=by simp; omega
      have A:S[m+1]=116:=UInt8.toNat_inj.1 c4
      have E:xQ (o=Qi S (m+2) (T ++ { data:=#[9] }).data.toList):=by
       show _=_;rw [uW,hrel.o];exact h 9 (by rw [A]; rfl)
      have N:(T ++ { data:=#[9] }:bA).size<=m+2:=by rw [uX]; show T.size+1<=m+2; omega
      clear c1 c2 c3 c4 A b1 b2 b3 h j hrel C z;go_wp2
      go_round
      case rel=>exact⟨m+2,_,by omega,by omega,by go_num,rfl,N,E⟩
      case measure=>simp [intOf]; omega
     have r4:((S[m+1].toNat:Int) == 116)=false:=by simp; omega
     have f:∀ n:UInt8,S[m+1].toNat≠n.toNat->¬ S[m+1]=n:=fun n V e=>V (by rw [e])
     have e:=hrel.o.trans (j (by rw [Ft,if_neg (f 92 c1),if_neg (f 34 c2),if_neg (f 110 c3),if_neg (f 116 c4)]));subst e;clear c1 c2 c3 c4 b1 b2 b3 h j hrel C z f;go_wp2
     go_ret2
     exact⟨rfl,rfl⟩
    ·have I:(S.size:Int)<=(m:Int)+1:=by omega
     have e:=hrel.o.trans (rG F b3 H);subst e;clear b1 b2 b3 hrel C;go_wp2
     go_ret2
     exact⟨rfl,rfl⟩
   have n3:((S[m].toNat:Int) != 92)=true:=by simp; omega
   have z:=Za (mU F);have M:=jD F
   have O:(m:Int)+1<=(S.size:Int):=by omega
   have Y:(m:Int)<=(m:Int)+1:=by omega
   have E:xQ (o=Qi S (m+1) (T ++ S.extract m (m+1)).data.toList):=by
    show _=_;rw [uW,z.o,hrel.o];exact rK F b1 b2 b3
   clear b1 b2 b3 hrel C z;go_wp2
   go_round
   case rel=>exact⟨m+1,_,by omega,by omega,by go_num,rfl,by rw [uX]; omega,E⟩
   case measure=>simp [intOf]; omega
  ·have Z:¬ (m:Int)<(S.size:Int):=by omega
   have e:=hrel.o.trans (rH F);subst e;clear hrel C;go_wp2
   go_ret2
   exact⟨rfl,rfl⟩
end Lx
namespace Lx
def val:bS->Int->Int
 | [],n=>n
 | d :: r,n=>val r (n*10+((d.toNat:Int) - 48))
def Lg (d:UInt8):Prop:=48<=(d.toNat:Int)/\(d.toNat:Int)<=57
theorem eV:∀ (l:bS) (n:Int),0<=n->(∀ d ∈ l,Lg d)->n<=val l n
 | [],n,_,_=>Int.le_refl n
 | d :: r,n,hn,hd=>by
  have h:=hd d (xM ..);unfold Lg at h;have:=eV r (n*10+((d.toNat:Int) - 48)) (by omega) (fun x j=>hd x (xW _ j));rw [val];omega
theorem eU:∀ (l:bS) (d:UInt8) (n:Int),val (l ++ [d]) n=val l n*10+((d.toNat:Int) - 48)
 | [],_,_=>rfl
 | x :: r,d,n=>by
  rw [List.cons_append,val,val,eU r d]
theorem sC:∀ (l:bS) (n:Int),0<=n->(∀ d ∈ l,Lg d)->val l n<=9223372036854775807->Lc l n=some (val l n)
 | [],_,_,_,_=>rfl
 | d :: r,n,hn,hd,hv=>by
  have h:=hd d (xM ..);unfold Lg at h
  have j:∀ x ∈ r,Lg x:=fun x z=>hd x (xW _ z)
  rw [val] at hv ⊢;have hg:=eV r (n*10+((d.toNat:Int) - 48)) (by omega) j;rw [Lc,if_neg (by omega),if_neg (by omega)];exact sC r _ (by omega) j hv
theorem uH:∀ (l:bS) (n:Int),0<=n->((∃ d ∈ l,¬ Lg d)∨(∀ d ∈ l,Lg d)/\9223372036854775807<val l n/\n<=9223372036854775807)->Lc l n=none
 | [],n,_,h=>by
  rcases h with⟨d,z,_⟩ | ⟨_,h,h2⟩
  ·cases z
  ·rw [val] at h
   omega
 | d :: r,n,hn,h=>by
  rw [Lc];by_cases z:(d.toNat:Int)<48∨57<(d.toNat:Int)
  ·rw [if_pos z]
  rw [if_neg z];by_cases C:(9223372036854775807 - ((d.toNat:Int) - 48)) / 10<n
  ·rw [if_pos C]
  rw [if_neg C];refine uH r _ (by omega) ?_;rcases h with⟨x,j,A⟩ | ⟨ha,hv,hm⟩
  ·rcases List.mem_cons.1 j with rfl | j
   ·exact absurd (show Lg x from ⟨by omega,by omega⟩) A
   ·exact Or.inl ⟨x,j,A⟩
  ·rw [val] at hv
   exact Or.inr ⟨fun x j=>ha x (xW _ j),hv,by omega⟩
end Lx
namespace Lx
open Go.RowKit
def Q7 (k:Nat):Int:=10 ^ k - 1
theorem top_19 {k:Nat} (h:k<=19):Q7 k<=9999999999999999999:=by
 have:(10:Nat) ^ k<=10 ^ 19:=Nat.pow_le_pow_right (by decide) h
 have e:((10 ^ k:Nat):Int)=(10:Int) ^ k:=by simp
 unfold Q7
 omega
theorem top_18 {k:Nat} {m:Int} (h:m<=Q7 k) (j:k<=18):m<=999999999999999999:=by
 have:(10:Nat) ^ k<=10 ^ 18:=Nat.pow_le_pow_right (by decide) j
 have e:((10 ^ k:Nat):Int)=(10:Int) ^ k:=by simp
 unfold Q7 at h
 omega
theorem zju {k:Nat} {m d:Int} (h:m<=Q7 k) (hd:d<=9):10*m+d<=Q7 (k+1):=by
 have e:(10:Int) ^ (k+1)=10 ^ k*10:=Int.pow_succ 10 k
 unfold Q7 at *
 omega
theorem rX (s:bA) (k:Nat) (j:k<s.size):s.data.toList.take (k+1)=s.data.toList.take k ++ [s[k]]:=by
 have h:k<s.data.toList.length:=by rw [Wz]; exact j
 rw [List.take_succ_eq_append_getElem h]
 rfl
theorem zkl (s:bA) (k:Nat) (h:k<s.size):val (s.data.toList.take (k+1)) 0=10*val (s.data.toList.take k) 0+((s[k].toNat:Int) - 48):=by
 rw [rX s k h,eU]
 omega
theorem nQ (s:bA) (k:Nat) (j:k<s.size):s[k] ∈ s.data.toList:=by
 have h:k<s.data.toList.length:=by rw [Wz]; exact j
 exact List.getElem_mem h
theorem zag (s:bA) (k:Nat) (z:k<s.size) (h:∀ d ∈ s.data.toList.take k,Lg d) (j:Lg s[k]):∀ d ∈ s.data.toList.take (k+1),Lg d:=by
 rw [rX s k z]
 intro d hm
 rcases List.mem_append.1 hm with hm | hm
 ·exact h d hm
 ·rw [List.mem_singleton.1 hm]
  exact j
theorem eW:∀ (l:bS) (n:Int),0<=n->(∀ d ∈ l,Lg d)->n*10 ^ l.length<=val l n
 | [],n,_,_=>by simp [val]
 | d :: r,n,hn,hd=>by
  have h:=hd d (xM ..);unfold Lg at h;have ih:=eW r (n*10+((d.toNat:Int) - 48)) (by omega) (fun x j=>hd x (xW _ j));rw [val,List.length_cons,Int.pow_succ];have z:(0:Int)<10 ^ r.length:=Int.pow_pos (by decide)
  have:n*(10 ^ r.length*10)<=(n*10+((d.toNat:Int) - 48))*10 ^ r.length:=by
   rw [Int.add_mul,Int.mul_comm (10 ^ r.length) 10,<- Int.mul_assoc];have:=Int.mul_nonneg (show 0<=(d.toNat:Int) - 48 by omega) (Int.le_of_lt z);omega
  omega
theorem zfj (s:bA) (A:0<s.size) (I:¬ ((s[0].toNat:Int)=48/\1<s.size)) (hl:19<s.size):Ns s.data.toList=none:=by
 rw [bE A I]
 refine uH _ 0 (by omega) ?_
 by_cases ha:∀ d ∈ s.data.toList,Lg d
 ·refine Or.inr ⟨ha,?_,by omega⟩
  have e:=Ue s 0 A;rw [List.drop_zero] at e;have h:=ha _ (nQ s 0 A);unfold Lg at h
  have H:∀ d ∈ s.data.toList.drop (0+1),Lg d:=fun d h=>ha d (List.mem_of_mem_drop h)
  obtain⟨x,F⟩:∃ x:Int,x=(s[0].toNat:Int) - 48:=⟨_,rfl⟩
  have hv:=eW (s.data.toList.drop (0+1)) x (by omega) H
  have j:(s.data.toList.drop (0+1)).length=s.size - 1:=by rw [List.length_drop,Wz]
  rw [j] at hv;have hp:(10:Nat) ^ 19<=10 ^ (s.size - 1):=Nat.pow_le_pow_right (by decide) (by omega)
  have e2:((10 ^ (s.size - 1):Nat):Int)=(10:Int) ^ (s.size - 1):=by simp
  have C:val s.data.toList 0=val (s.data.toList.drop (0+1)) x:=by
   rw [e,val,F];simp
  rw [C]
  have z:(1:Int)<=x:=by omega
  have:=Int.mul_le_mul_of_nonneg_right z (show(0:Int)<=10 ^ (s.size - 1) by omega);omega
 ·refine Or.inl ?_
  obtain⟨d,h⟩:=Classical.not_forall.1 ha;obtain⟨z,J⟩:=Classical.not_imp.1 h;exact⟨d,z,J⟩
theorem parseR_c (s:bA) (w:wD) (hs:s.size<=9223372036854775807):Calls prog 93 #[.string s] w fun e w'=>e = .returned (Cp (Ns s.data.toList))/\w'=w:=by
 by_cases H:s.size=0
 ·have T:((s.size:Int) == 0)=true:=by simpa using H
  rw [sD H];go_enter func93,ntmps93;go_wp2
  go_ret2
  exact⟨rfl,rfl⟩
 have T:((s.size:Int) == 0)=false:=by simpa using H
 have M:0<s.size:=by omega
 by_cases j:(s[0].toNat:Int)=48/\1<s.size
 ·rw [sE M j.1 j.2]
  obtain⟨N5,Kl⟩:=j;by_cases O:19<s.size
  all_goals
   go_enter func93,ntmps93;go_wp2
   go_ret2
   exact⟨rfl,rfl⟩
 by_cases O:19<s.size
 ·rw [zfj s M j O]
  clear j;go_enter func93,ntmps93;go_wp2
  go_ret2
  exact⟨rfl,rfl⟩
 have A:=Za (bE M j)
 have J:((s[0].toNat:Int)=48/\s.size<=1)∨¬ (s[0].toNat:Int)=48:=by omega
 clear j H
 rcases J with⟨J,Tj⟩ | J
 all_goals
  go_enter func93,ntmps93;go_wp2
  go_loop [4,5] (fun n i=>∃ (k:Nat) (m:Int),k<=s.size/\i=iP k/\n = .int .u64 m/\0<=m/\m<=Q7 k/\m=val (s.data.toList.take k) 0/\∀ d ∈ s.data.toList.take k,Lg d) (fun _ i=>s.size - (intOf i).toNat)
  case atStart=>exact⟨0,0,xZ _,rfl,rfl,by omega,by decide,rfl,by simp⟩
  case round =>
   obtain⟨k,m,hk,rfl,rfl,hm0,N,hv,ha⟩:=hrel;have I:=Za N;have z:=Za hv;have F:=Za ha;clear N hv ha;by_cases C:k<s.size
   ·have Y:m<=999999999999999999:=top_18 I.o (by omega)
    by_cases b1:(s[k].toNat:Int)<48
    ·go_wp2
     go_ret2
     rw [A.o,uH _ 0 (by omega) (Or.inl ⟨s[k],nQ s k C,fun h=>by unfold Lg at h; omega⟩)];exact⟨rfl,rfl⟩
    by_cases b2:57<(s[k].toNat:Int)
    ·go_wp2
     go_ret2
     rw [A.o,uH _ 0 (by omega) (Or.inl ⟨s[k],nQ s k C,fun h=>by unfold Lg at h; omega⟩)];exact⟨rfl,rfl⟩
    ·go_wp2
     go_round
     case rel=>exact⟨k+1,10*m+((s[k].toNat:Int) - 48),by omega,by go_num,rfl,by omega,zju I.o (by omega),by rw [zkl s k C,z.o],zag s k C F.o ⟨by omega,by omega⟩⟩
     case measure=>simp [intOf]; omega
   ·have Y:m<=9999999999999999999:=Int.le_trans I.o (top_19 (by omega))
    have e:s.data.toList.take k=s.data.toList:=List.take_of_length_le (by rw [Wz]; omega);rw [e] at z F;by_cases V:9223372036854775807<m
    ·go_wp2
     go_ret2
     rw [A.o,uH _ 0 (by omega) (Or.inr ⟨F.o,by rw [<- z.o]; exact V,by omega⟩)];exact⟨rfl,rfl⟩
    ·go_wp2
     go_ret2
     rw [A.o,sC _ 0 (by omega) F.o (by rw [<- z.o]; omega),<- z.o];exact⟨rfl,rfl⟩
def vK (S:bA) (w:wD) (R:Rd) (e:Ending) (w':wD):Prop :=
 Below w.heap.size w w'/\match R with
 | .inl x=>x≠0/\e = .returned (.tuple #[.agg #[iP 0,.string { data:=#[] },iP 0,iP 0],iP 0,iP x])
 | .inr (k,t,rest)=>∃ n:Nat,0<n/\n<=S.size/\rest=S.data.toList.drop n/\e = .returned (.tuple #[.agg #[iP k,uP t,iP 0,iP 0],iP n,iP 0])
theorem Ei {F:Func} {p u v:Tmp} {z:TypeId} (h:F.results=#[.cell p z,.tmp u,.tmp v]) (j:Array vL) {P:Program} {w:wD} {g:Nat} {t:TypeId} {cs:Array vL} {C:Nat×Nat} {I:Array Field}
  (J:j.getD p undef=qP g) (M:w.heap[g]?=some (.cells cs t C))
  (H:P.underlying z=some (.struct I)) (N:(P.info? z).map (·.size)=some cs.size) :
  (results F j).run P w = .ok (.tuple #[.agg cs,j.getD u undef,j.getD v undef]) w:=by
 have A:j[p]?.getD undef=qP g:=by simpa using J
 simp [results,h,A,asAddr,run_loadVar_row w g t z cs C _ M H rfl N]
theorem Em:(prog.info? 121).map (·.size)=some 4:=by kernel_rfl
theorem Wp.set {w:wD} {tb:Nat} {kind:Int} {text:bA} {li co:Int} (h:Wp w tb kind text li co) (A:Int) (C:bA) (z j:Int) :
  Wp ((((w.setCell (aP tb 0) (iP A)).setCell (aP tb 1) (.string C)).setCell (aP tb 2) (iP z)).setCell (aP tb 3) (iP j)) tb A C z j :=
 Y1 (Y1 (Y1 (Y1 h)))
theorem eB {w w2:wD} (h:Below (w.alloc (.cells #[iP 0,.string { data:=#[] },iP 0,iP 0] 121)).heap.size (w.alloc (.cells #[iP 0,.string { data:=#[] },iP 0,iP 0] 121)) w2):Wp w2 w.heap.size 0 { data:=#[] } 0 0:=by
 unfold Wp
 rw [h.block _ (by simp)]
 exact xL w _
theorem zcs {b:UInt8} (h:Tw b=true):Xh b=false:=by
 cases hd:Xh b
 ·rfl
 ·rw [uD hd] at h
  cases h
theorem aK (S:bA) (p:UInt8->Bool):(S.extract 0 (Wk S 0 p)).data.toList=S.data.toList.takeWhile p:=by
 rw [mV,List.drop_zero]
theorem zjr (S:bA) (h0:0<S.size) (hS:S.size<=65536) (hl:Tw S[0]=true) (w:wD):Calls prog 71 #[.string S] w (vK S w (U1 S.data.toList)):=by
 have M:=Oe (k:=0) h0
 rw [List.drop_zero,hl,if_pos rfl] at M
 have Kj:=Cl S[0]
 have Mh:=Rq S[0]
 rw [hl] at Kj
 rw [zcs hl] at Mh
 have Ku:=Za Kj
 have M8:=Za Mh
 have I:=pN (p:=Xm) h0 (by simp [Xm,hl])
 have Px:=Oh S 0 Xm (by omega)
 have V3:=aK S Xm
 have Xe:Wk S 0 Xm=(S.data.toList.takeWhile Xm).length:=by unfold Wk; simp
 rw [<- Xe,<- V3] at M
 obtain⟨r,hr⟩:=xE (Wk S 0 Xm)
 have Yu:=Za hr
 have V:=cO (S.extract 0 r)
 rw [<- hr] at M I Px
 obtain⟨R,hR⟩:=xE (U1 S.data.toList)
 rw [<- hR] at M ⊢
 have Qu:=Za M
 have HWC:=Za V
 have h0I:(0:Int)<(S.size:Int):=by omega
 clear Kj Mh hl hr M V3 Xe hR V
 go_enter func71,ntmps71
 go_wp2_with fail
 refine(Ku.o _).mono ?_
 rintro e w' ⟨rfl,rfl⟩
 go_wp2_with fail
 refine(M8.o _).mono ?_
 rintro e w' ⟨rfl,rfl⟩
 go_wp2
 go_loop [7] (fun i=>∃ m:Nat,m<=S.size/\i=iP m/\xQ (r=Wk S m Xm)) (fun i=>S.size - (intOf i).toNat)
 case atStart=>exact⟨0,xZ _,rfl,Yu⟩
 case round =>
  obtain⟨m,hm,rfl,C⟩:=hrel;by_cases F:∃ h:m<S.size,Xm S[m]=true
  ·obtain⟨A,F⟩:=F
   have Cd:(m:Int)<(S.size:Int):=by omega
   have H:=Cl S[m];have J:=Rq S[m];have N:xQ (r=Wk S (m+1) Xm):=C.o.trans (zS A F)
   have hab:(Tw S[m]=true/\Xh S[m]=false)∨(Tw S[m]=false/\Xh S[m]=true)∨(Tw S[m]=true/\Xh S[m]=true):=by
    revert F
    unfold Xm
    cases Tw S[m] <;> cases Xh S[m] <;> simp
   clear F;rcases hab with⟨ha,j⟩ | ⟨ha,j⟩ | ⟨ha,j⟩
   all_goals
    rw [ha] at H;rw [j] at J;have Mz:=Za H;have Jq:=Za J;clear H J ha j;go_wp2_with fail;refine(Mz.o _).mono ?_;rintro e w' ⟨rfl,rfl⟩;go_wp2_with fail;refine(Jq.o _).mono ?_;rintro e w' ⟨rfl,rfl⟩;go_wp2
    go_round
    case rel=>exact⟨m+1,by omega,by go_num,N⟩
    case measure=>simp [intOf]; omega
  ·have hmr:r=m:=by
    by_cases A:m<S.size
    ·rw [C.o]
     refine uQ A ?_;cases hq:Xm S[m]
     ·rfl
     ·exact absurd ⟨A,hq⟩ F
    ·rw [C.o,uO A]
   subst hmr
   have mI:(r:Int)<=(S.size:Int):=by omega
   have hex:(∃ h:r<S.size,(r:Int)<(S.size:Int)/\Tw S[r]=false/\Xh S[r]=false)∨¬ (r:Int)<(S.size:Int):=by
    by_cases A:r<S.size
    ·have:Xm S[r]=false:=by
      cases hq:Xm S[r]
      ·rfl
      ·exact absurd ⟨A,hq⟩ F
     unfold Xm at this;rw [Bool.or_eq_false_iff] at this;exact .inl ⟨A,by omega,this.1,this.2⟩
    ·exact .inr (by omega)
   clear F C Yu;rcases hex with⟨A,Cd,ha,j⟩ | Cd
   all_goals
    first
    | (have H:=Cl S[r]
       have J:=Rq S[r];rw [ha] at H;rw [j] at J;have Mz:=Za H;have Jq:=Za J;clear H J ha j;go_wp2_with fail;refine(Mz.o _).mono ?_;rintro e w' ⟨rfl,rfl⟩;go_wp2_with fail;refine(Jq.o _).mono ?_
       rintro e w' ⟨rfl,rfl⟩)
    | skip
    by_cases T:32<r
    ·have Z:(32:Int)<(r:Int):=by omega
     have O:=Qu.o;rw [if_pos T] at O;subst O;clear Qu;go_wp2;refine bodyPost_ret (Ei rfl _ rfl (xL w _) underlying121 Em) rfl ?_;exact⟨Zq w _,by decide,rfl⟩
    ·have Z:¬ (32:Int)<(r:Int):=by omega
     have O:=Qu.o;rw [if_neg T] at O;have Pm:=Za O;clear O Qu;go_wp2_with fail;refine(HWC.o _).mono ?_;rintro e w2 ⟨rfl,Z5⟩;have z:=eB Z5;have Y:=Za z;have c0:=z.c0;have c1:=z.c1;have c2:=z.c2;have c3:=z.c3;have f0:=z.fz 0;have f1:=z.fz 1;have f2:=z.fz 2;have f3:=z.fz 3;have Xa:=Za (Zz (Zq w _) Z5);obtain⟨b,j⟩:=xE (P5.contains (S.extract 0 r).data.toList)
     rw [<- j] at Pm ⊢;clear Z5 z j;cases b
     ·go_wp2
      refine bodyPost_ret (Ei rfl _ rfl (Y.o.set _ _ _ _) underlying121 Em) rfl ?_;rw [Pm.o];exact⟨Rp Xa.o _ _ _ _,r,I,Px,rfl,rfl⟩
     ·go_wp2
      refine bodyPost_ret (Ei rfl _ rfl (Y.o.set _ _ _ _) underlying121 Em) rfl ?_;rw [Pm.o];exact⟨Rp Xa.o _ _ _ _,r,I,Px,rfl,rfl⟩
theorem zjq (S:bA) (h0:0<S.size) (hS:S.size<=65536) (O:Xh S[0]=true) (w:wD):Calls prog 71 #[.string S] w (vK S w (U1 S.data.toList)):=by
 have M:=Oe (k:=0) h0
 rw [List.drop_zero,uD O,O,if_neg (by decide),if_pos rfl] at M
 have Kj:=Cl S[0]
 have Mh:=Rq S[0]
 rw [uD O] at Kj
 rw [O] at Mh
 have Ku:=Za Kj
 have M8:=Za Mh
 have T:=pN (p:=Xh) h0 O
 have Px:=Oh S 0 Xh (by omega)
 have V3:=aK S Xh
 rw [<- V3] at M
 obtain⟨r,hr⟩:=xE (Wk S 0 Xh)
 have Yu:=Za hr
 rw [<- hr] at M T Px
 have hxs:(S.extract 0 r).size<=65536:=by
  rw [<- Wz,Il];simp;omega
 have Y:=parseR_c (S.extract 0 r)
 obtain⟨R,hR⟩:=xE (U1 S.data.toList)
 rw [<- hR] at M ⊢
 have Z:=Za M
 have A:=Za (fun w=>Y w (by omega))
 have h0I:(0:Int)<(S.size:Int):=by omega
 clear Kj Mh O hr M V3 hR Y hxs
 go_enter func71,ntmps71
 go_wp2_with fail
 refine(Ku.o _).mono ?_
 rintro e w' ⟨rfl,rfl⟩
 go_wp2_with fail
 refine(M8.o _).mono ?_
 rintro e w' ⟨rfl,rfl⟩
 go_wp2
 go_loop [7] (fun i=>∃ m:Nat,m<=S.size/\i=iP m/\xQ (r=Wk S m Xh)) (fun i=>S.size - (intOf i).toNat)
 case atStart=>exact⟨0,xZ _,rfl,Yu⟩
 case round =>
  obtain⟨m,hm,rfl,C⟩:=hrel;by_cases z:∃ h:m<S.size,Xh S[m]=true
  ·obtain⟨j,z⟩:=z
   have Cd:(m:Int)<(S.size:Int):=by omega
   have J:=Cl S[m];have H:=Rq S[m];have N:xQ (r=Wk S (m+1) Xh):=C.o.trans (zS j z);rw [uD z] at J;rw [z] at H;have Mz:=Za J;have Jq:=Za H;clear J H z;go_wp2_with fail;refine(Mz.o _).mono ?_;rintro e w' ⟨rfl,rfl⟩;go_wp2_with fail;refine(Jq.o _).mono ?_;rintro e w' ⟨rfl,rfl⟩;go_wp2
   go_round
   case rel=>exact⟨m+1,by omega,by go_num,N⟩
   case measure=>simp [intOf]; omega
  ·have hmr:r=m:=by
    by_cases j:m<S.size
    ·rw [C.o]
     refine uQ j ?_;cases hq:Xh S[m]
     ·rfl
     ·exact absurd ⟨j,hq⟩ z
    ·rw [C.o,uO j]
   subst hmr
   have mI:(r:Int)<=(S.size:Int):=by omega
   have hex:(∃ h:r<S.size,(r:Int)<(S.size:Int)/\Xh S[r]=false)∨¬ (r:Int)<(S.size:Int):=by
    by_cases j:r<S.size
    ·have:Xh S[r]=false:=by
      cases hq:Xh S[r]
      ·rfl
      ·exact absurd ⟨j,hq⟩ z
     exact .inl ⟨j,by omega,this⟩
    ·exact .inr (by omega)
   clear z C Yu;rcases hex with⟨j,Cd,hb⟩ | Cd
   all_goals
    first
    | (have J:=Cl S[r]
       have H:=Rq S[r];rw [hb] at H;have Mz:=Za J;have Jq:=Za H;clear J H hb;go_wp2_with fail;refine(Mz.o _).mono ?_;rintro e w' ⟨rfl,rfl⟩;go_wp2_with fail;refine(Jq.o _).mono ?_
       rintro e w' ⟨rfl,rfl⟩)
    | skip
    cases hq:Ns (S.extract 0 r).data.toList with
    | none =>
     have V:=Z.o;rw [hq] at V;have I:=A.o;rw [hq] at I;have F:=Za I;clear Z hq A I;go_wp2_with fail;refine(F.o _).mono ?_;rintro e w' ⟨rfl,rfl⟩;simp only [Cp,Option.getD_none,Option.isSome_none];go_wp2;rw [V];refine bodyPost_ret (Ei rfl _ rfl (xL w _) underlying121 Em) rfl ?_;exact⟨Zq w _,by decide,rfl⟩
    | some v =>
     have V:=Z.o;rw [hq] at V;have I:=A.o;rw [hq] at I;have F:=Za I;clear Z hq A I;go_wp2_with fail;refine(F.o _).mono ?_;rintro e w' ⟨rfl,rfl⟩;simp only [Cp,Option.getD_some,Option.isSome_some];go_wp2;rw [V];refine bodyPost_ret (Ei rfl _ rfl (xL w _) underlying121 Em) rfl ?_;exact⟨Zq w _,r,T,Px,rfl,rfl⟩
theorem zjt (S:bA) (h0:0<S.size) (hS:S.size<=65536) (hl:Tw S[0]=false) (Y:Xh S[0]=false) (z:S[0]=34) (w:wD):Calls prog 71 #[.string S] w (vK S w (U1 S.data.toList)):=by
 have F:=Oe (k:=0) h0
 rw [List.drop_zero,hl,Y,if_neg (by decide),if_neg (by decide),if_pos z] at F
 have V:=Cl S[0]
 have Mh:=Rq S[0]
 rw [hl] at V
 rw [Y] at Mh
 have Ku:=Za V
 have M8:=Za Mh
 have j:=zgb S hS
 obtain⟨R,hR⟩:=xE (U1 S.data.toList)
 rw [<- hR] at F ⊢
 have p1:((S[0].toNat:Int) == 34)=true:=by rw [z]; rfl
 have h0I:(0:Int)<(S.size:Int):=by omega
 cases ho:Qi S 1 [] with
 | none =>
  rw [ho] at j;rw [Nat.zero_add,ho] at F;subst F;have H:=Za j;clear V Mh hl Y z hR j ho;go_enter func71,ntmps71;go_wp2_with fail;refine(Ku.o _).mono ?_;rintro e w' ⟨rfl,rfl⟩;go_wp2_with fail;refine(M8.o _).mono ?_;rintro e w' ⟨rfl,rfl⟩;go_wp2_with fail;refine(H.o _).mono ?_;rintro e w' ⟨z,rfl⟩;simp only [lT] at z;subst z;go_wp2;refine bodyPost_ret (Ei rfl _ rfl (xL w _) underlying121 Em) rfl ?_
  exact⟨Zq w _,by decide,rfl⟩
 | some sr =>
  obtain⟨h,J⟩:=sr;rw [ho] at j;rw [Nat.zero_add,ho] at F
  have A:R=if 256<h.length then Rd.bad 2 else Rd.tok 4 h J:=F
  have H:=Za j;have Z:=Za A;clear V Mh hl Y z hR j ho F A;go_enter func71,ntmps71;go_wp2_with fail;refine(Ku.o _).mono ?_;rintro e w' ⟨rfl,rfl⟩;go_wp2_with fail;refine(M8.o _).mono ?_;rintro e w' ⟨rfl,rfl⟩;go_wp2_with fail;refine(H.o _).mono ?_;rintro e w' ⟨z,rfl⟩;obtain⟨m,Kk,Su,A5,rfl⟩:=z
  have m0:((m:Int) == 0)=false:=by simp; omega
  obtain⟨T,O⟩:∃ T:ByteArray,T=⟨h.toArray⟩:=⟨_,rfl⟩
  have M:T.size=h.length:=by rw [O,bU]
  rw [show uP h=.string T by rw [O]];have HTT:=Za O;have Ot:=Za A5;clear O A5;by_cases C:256<h.length
  ·have N:=Z.o
   rw [if_pos C] at N;subst N
   have I:(256:Int)<(T.size:Int):=by omega
   clear M Z;go_wp2;refine bodyPost_ret (Ei rfl _ rfl (xL w _) underlying121 Em) rfl ?_;exact⟨Zq w _,by decide,rfl⟩
  ·have N:=Z.o
   rw [if_neg C] at N;subst N
   have I:¬ (256:Int)<(T.size:Int):=by omega
   clear M Z;go_wp2;refine bodyPost_ret (Ei rfl _ rfl (xL w _) underlying121 Em) rfl ?_;exact⟨Zq w _,m,by omega,Su,Ot.o,by rw [HTT.o]; rfl⟩
theorem zjs (S:bA) (h0:0<S.size) (hS:S.size<=65536) (T:Tw S[0]=false) (N:Xh S[0]=false) (O:¬ S[0]=34) (w:wD):Calls prog 71 #[.string S] w (vK S w (U1 S.data.toList)):=by
 have j:=Oe (k:=0) h0
 rw [List.drop_zero,T,N,if_neg (by decide),if_neg (by decide),if_neg O] at j
 have I:=Cl S[0]
 have V:=Rq S[0]
 rw [T] at I
 rw [N] at V
 have Ku:=Za I
 have M8:=Za V
 have H:=zil S h0 hS
 have Y:=pS S.data.toList
 rw [Wz] at Y
 obtain⟨R,hR⟩:=xE (U1 S.data.toList)
 rw [<- hR] at j ⊢
 have p1:((S[0].toNat:Int) == 34)=false:=by
  rw [beq_eq_false_iff_ne];intro e;exact O (UInt8.toNat_inj.1 (by show S[0].toNat=34; omega))
 have h0I:(0:Int)<(S.size:Int):=by omega
 obtain⟨n,hn⟩:=xE (U9 S.data.toList)
 rw [<- hn] at H Y j
 have M:=Za H
 have F:=Za j
 have nI:(n:Int)<=(S.size:Int):=by omega
 clear I V T N O hR H j hn
 go_enter func71,ntmps71
 go_wp2_with fail
 refine(Ku.o _).mono ?_
 rintro e w' ⟨rfl,rfl⟩
 go_wp2_with fail
 refine(M8.o _).mono ?_
 rintro e w' ⟨rfl,rfl⟩
 go_wp2_with fail
 refine(M.o _).mono ?_
 rintro e w2 ⟨rfl,J⟩
 have h:=eB J
 have z:=Za h
 have c0:=h.c0
 have c1:=h.c1
 have c2:=h.c2
 have c3:=h.c3
 have f0:=h.fz 0
 have f1:=h.fz 1
 have f2:=h.fz 2
 have f3:=h.fz 3
 have Xa:=Za (Zz (Zq w _) J)
 clear h J
 by_cases C:n=0
 ·have A:=F.o
  rw [if_pos C] at A;subst A
  have z1:((n:Int) == 0)=true:=by rw [C]; rfl
  clear F C;go_wp2;refine bodyPost_ret (Ei rfl _ rfl (z.o.set _ _ _ _) underlying121 Em) rfl ?_;exact⟨Rp Xa.o _ _ _ _,by decide,rfl⟩
 ·have A:=F.o
  rw [if_neg C,Nat.zero_add] at A;subst A
  have z1:((n:Int) == 0)=false:=by simp; omega
  have Z:0<n:=by omega
  clear F C;go_wp2;refine bodyPost_ret (Ei rfl _ rfl (z.o.set _ _ _ _) underlying121 Em) rfl ?_;refine⟨Rp Xa.o _ _ _ _,n,Z,Y,rfl,?_⟩;rw [Il,List.drop_zero,Nat.sub_zero];rfl
theorem zjp (S:bA) (h:0<S.size) (j:S.size<=65536) (w:wD):Calls prog 71 #[.string S] w (vK S w (U1 S.data.toList)):=by
 cases hl:Tw S[0]
 ·cases hd:Xh S[0]
  ·by_cases z:S[0]=34
   ·exact zjt S h j hl hd z w
   ·exact zjs S h j hl hd z w
  ·exact zjq S h j hd w
 ·exact zjr S h j hl w
end Lx
namespace Lx
/-! What a token is. -/
def wP (p:Nat×Nat) (b:UInt8):Nat×Nat:=if b=10 then(p.1+1,1)else(p.1,p.2+1)
def Fm (c:bS) (p:Nat×Nat):Nat×Nat:=c.foldl wP p
theorem sG (c d:bS) (p:Nat×Nat):Fm (c ++ d) p=Fm d (Fm c p):=List.foldl_append ..
end Lx
namespace Lx
open Go.RowKit
def tJ (l:bS) (n:Nat):Prop:=n<=l.length/\∀ p:Nat×Nat,Vf false l p.1 p.2=(l.drop n,Fm (l.take n) p)
def Hu (c:Bool) (S:bA) (i:Nat):Prop:=∀ p:Nat×Nat,Vf false S.data.toList p.1 p.2=Vf c (S.data.toList.drop i) (Fm (S.data.toList.take i) p).1 (Fm (S.data.toList.take i) p).2
theorem sH {S:bA} {i:Nat} (j:i<S.size) (p:Nat×Nat):Fm (S.data.toList.take (i+1)) p=wP (Fm (S.data.toList.take i) p) S[i]:=by
 have h:i<S.data.toList.length:=by rw [Wz]; exact j
 rw [List.take_succ_eq_append_getElem h,sG]
 rfl
section
variable {S : bA} {i : Nat}
theorem zdy:Hu false S 0:=fun p=>by simp [Fm]
theorem zdx (h:Hu false S i) (j:i<S.size) (z:S[i].toNat=35):Hu true S i:=fun p=>by
 have e:S[i]=35:=UInt8.toNat_inj.1 z
 rw [h p,Ue S i j,e]
 simp [Vf]
theorem mid_on (h:Hu true S i) (j:i<S.size) (z:S[i].toNat≠10):Hu true S (i+1):=fun p=>by
 have e:¬ S[i]=10:=fun e=>z (by rw [e]; rfl)
 rw [h p,sH j,Ue S i j,Vf,if_neg e,wP,if_neg e]
theorem zdv (h:Hu true S i) (j:i<S.size) (z:S[i].toNat=10):Hu false S i:=fun p=>by
 have e:S[i]=10:=UInt8.toNat_inj.1 z
 rw [h p,Ue S i j,e]
 simp [Vf]
theorem zdw (h:Hu true S i) (hi:¬ i<S.size):Hu false S i:=fun p=>by
 rw [h p,List.drop_eq_nil_of_le (by rw [Wz]; omega)]
 simp [Vf]
theorem zdt (h:Hu false S i) (z:i<S.size) (j:S[i].toNat=32∨S[i].toNat=9∨S[i].toNat=10∨S[i].toNat=13):Hu false S (i+1):=fun p=>by
 rw [h p,sH z,Ue S i z,Vf,wP]
 by_cases e:S[i]=10
 ·rw [if_pos e,if_pos e]
 ·have A:S[i]=32∨S[i]=9∨S[i]=13:=by
   rcases j with j | j | j | j
   ·exact .inl (UInt8.toNat_inj.1 j)
   ·exact .inr (.inl (UInt8.toNat_inj.1 j))
   ·exact absurd (UInt8.toNat_inj.1 j) e
   ·exact .inr (.inr (UInt8.toNat_inj.1 j))
  rw [if_neg e,if_neg e,if_pos A]
theorem zdz (h:Hu false S i) (z:i<S.size) (j:S[i].toNat≠10/\S[i].toNat≠32/\S[i].toNat≠9/\S[i].toNat≠13/\S[i].toNat≠35):tJ S.data.toList i:=by
 have f:∀ n:UInt8,S[i].toNat≠n.toNat->¬ S[i]=n:=fun n A e=>A (by rw [e])
 refine⟨by rw [Wz]; omega,fun p=>?_⟩
 rw [h p,Ue S i z,Vf,if_neg (f 10 j.1),if_neg,if_neg (f 35 j.2.2.2.2)]
 rintro(e | e | e)
 ·exact f 32 j.2.1 e
 ·exact f 9 j.2.2.1 e
 ·exact f 13 j.2.2.2.1 e
theorem zdu (h:Hu false S i) (hi:¬ i<S.size) (Px:i<=S.size):tJ S.data.toList i:=by
 refine⟨by rw [Wz]; omega,fun p=>?_⟩
 rw [h p,List.drop_eq_nil_of_le (by rw [Wz]; omega)]
 simp [Vf]
end
theorem oJ (S:bA) (hS:S.size<=65536) (w:wD):Calls prog 70 #[.string S] w fun e w'=>(∃ n:Nat,e = .returned (iP n)/\tJ S.data.toList n)/\w'=w:=by
 go_enter func70,ntmps70
 go_wp2
 go_loop [3] (fun i=>∃ k:Nat,k<=S.size/\i=iP k/\xQ (Hu false S k)) (fun i=>S.size - (intOf i).toNat)
 case atStart=>exact⟨0,xZ _,rfl,zdy⟩
 case round =>
  obtain⟨k,O,rfl,hm⟩:=hrel;by_cases H:k<S.size
  ·have Cd:(k:Int)<(S.size:Int):=by omega
   by_cases b1:S[k].toNat=35
   ·have F:((S[k].toNat:Int) == 35)=true:=by simp; omega
    have V:=Za (zdx hm.o H b1);have T:=Za b1;clear b1;go_wp2
    go_loop [3] (fun i=>∃ m:Nat,k<=m/\m<=S.size/\i=iP m/\xQ (Hu true S m)) (fun i=>S.size - (intOf i).toNat)
    case atStart=>exact⟨k,xR,O,rfl,V⟩
    case round =>
     obtain⟨m,hkm,M,rfl,j⟩:=hrel;by_cases h:m<S.size
     ·have z:(m:Int)<(S.size:Int):=by omega
      by_cases b2:S[m].toNat=10
      ·have C:((S[m].toNat:Int) != 10)=false:=by simp; omega
       have A:=Za (zdv j.o h b2)
       have hkm2:k<m:=by
        by_cases e:m=k
        ·subst e
         have:=T.o;omega
        ·omega
       clear b2;go_wp2
       go_round
       case rel=>exact⟨m,M,rfl,A⟩
       case measure=>simp [intOf]; omega
      ·have C:((S[m].toNat:Int) != 10)=true:=by simp; omega
       have A:=Za (mid_on j.o h b2);clear b2;go_wp2
       go_round
       case rel=>exact⟨m+1,by omega,by omega,by go_num,A⟩
       case measure=>simp [intOf]; omega
     ·have z:¬ (m:Int)<(S.size:Int):=by omega
      have A:=Za (zdw j.o h);go_wp2
      go_round
      case rel=>exact⟨m,M,rfl,A⟩
      case measure=>simp [intOf]; omega
   have n1:((S[k].toNat:Int) == 35)=false:=by simp; omega
   by_cases b2:S[k].toNat=32∨S[k].toNat=9∨S[k].toNat=10∨S[k].toNat=13
   ·have A:=Za (zdt hm.o H b2)
    have I:((S[k].toNat:Int) != 32)=false∨(((S[k].toNat:Int) != 32)=true/\((S[k].toNat:Int) != 9)=false)∨(((S[k].toNat:Int) != 32)=true/\((S[k].toNat:Int) != 9)=true/\((S[k].toNat:Int) != 10)=false) ∨
      (((S[k].toNat:Int) != 32)=true/\((S[k].toNat:Int) != 9)=true/\((S[k].toNat:Int) != 10)=true/\((S[k].toNat:Int) != 13)=false):=by simp; omega
    clear b2 b1;rcases I with F | ⟨F,C⟩ | ⟨F,C,N⟩ | ⟨F,C,N,Y⟩
    all_goals
     go_wp2
     go_round
     case rel=>exact⟨k+1,by omega,by go_num,A⟩
     case measure=>simp [intOf]; omega
   ·have J:=Za (zdz hm.o H ⟨by omega,by omega,by omega,by omega,b1⟩)
    have F:((S[k].toNat:Int) != 32)=true:=by simp; omega
    have C:((S[k].toNat:Int) != 9)=true:=by simp; omega
    have N:((S[k].toNat:Int) != 10)=true:=by simp; omega
    have Y:((S[k].toNat:Int) != 13)=true:=by simp; omega
    clear b1 b2;go_wp2;go_ret;exact⟨⟨k,rfl,J.o⟩,rfl⟩
  ·have J:=Za (zdu hm.o H O)
   go_wp2;go_ret;exact⟨⟨k,rfl,J.o⟩,rfl⟩
end Lx
end Go.Proofs.YtoppemkjhhlegaaGreatDoor
