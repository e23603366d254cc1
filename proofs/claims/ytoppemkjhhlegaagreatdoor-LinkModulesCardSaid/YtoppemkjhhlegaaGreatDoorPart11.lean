/- Part. -/
import Derived.Test.YtoppemkjhhlegaaGreatDoorPart10
set_option maxRecDepth 100000
set_option maxHeartbeats 4000000
namespace Go.Proofs.YtoppemkjhhlegaaGreatDoor
open Go.Proofs.Tryz
namespace Lx
open Go.RowKit Go.Maps
def R0 (c:UInt8):Int:=if c=92 then 0 else if c=34 then 1 else if c=110 then 2 else if c=116 then 3 else -1
theorem zcb (c:UInt8):Lib.indexByte [92,34,110,116] c=R0 c:=by
 unfold R0
 by_cases z:c=92
 ·subst z; decide
 by_cases C:c=34
 ·subst C; decide
 by_cases j:c=110
 ·subst j; decide
 by_cases A:c=116
 ·subst A; decide
 have I:((92:UInt8) == c)=false:=by simpa using fun h=>z h.symm
 have J:((34:UInt8) == c)=false:=by simpa using fun h=>C h.symm
 have F:((110:UInt8) == c)=false:=by simpa using fun h=>j h.symm
 have H:((116:UInt8) == c)=false:=by simpa using fun h=>A h.symm
 simp [Lib.indexByte,I,J,F,H,z,C,j,A]
theorem rZ (c:UInt8):((c.toNat:Int).toNat).toUInt8=c:=by simp
theorem zcv (c:UInt8) (w:wD):Calls prog 121 #[.string { data:=#[92,34,110,116] },.int .u8 c.toNat] w fun e w'=>e = .returned (iP (R0 c))/\w'=w:=by
 have h:=strings_IndexByte { data:=#[92,34,110,116] } c.toNat w
 rw [rZ,zcb] at h
 exact h
theorem zcu (S:bA) (i:Nat) (hi:S.size<=i) (w:wD):Calls prog 112 #[.string S,iP i] w fun e w'=>e = .returned (iP (-1))/\w'=w:=by
 go_enter func112,ntmps112
 go_wp2
 go_ret
 exact⟨rfl,rfl⟩
theorem zct (S:bA) (i:Nat) (hi:i<S.size) (w:wD):Calls prog 112 #[.string S,iP i] w fun e w'=>e = .returned (iP (R0 S[i]))/\w'=w:=by
 have j:=Za (zcv S[i])
 obtain⟨x,h⟩:=xE (R0 S[i])
 rw [<- h] at j ⊢
 clear h
 go_enter func112,ntmps112
 go_wp2_with fail
 refine(j.o _).mono ?_
 rintro e w' ⟨rfl,rfl⟩
 go_wp2
 go_ret
 exact⟨rfl,rfl⟩
theorem zcc (l:bS) (c:UInt8):(0<=Lib.indexByte l c)↔c ∈ l:=by
 induction l with
 | nil=>simp [Lib.indexByte]
 | cons b r ih =>
  unfold Lib.indexByte;by_cases h:b=c
  ·subst h; simp
  ·have e:(b == c)=false:=by simpa using h
   rw [if_neg (by rw [e]; decide)];by_cases j:c ∈ r
   ·have A:=ih.2 j
    have H:(Lib.indexByte r c == -1)=false:=by simp; omega
    rw [if_neg (by rw [H]; decide)];simp [j];omega
   ·have A:¬ 0<=Lib.indexByte r c:=fun F=>j (ih.1 F)
    simp only [List.mem_cons,j,or_false]
    constructor
    ·intro z
     exfalso
     split at z
     ·omega
     ·rename_i C
      simp at C
      have:Lib.indexByte r c < -1∨Lib.indexByte r c = -1:=by omega
      have Rv:-1<=Lib.indexByte r c:=by
       clear ih j A z C this
       induction r with
       | nil=>simp [Lib.indexByte]
       | cons d r ih2 =>
        unfold Lib.indexByte
        split
        ·omega
        split
        ·omega
        ·omega
      omega
    ·intro z; exact absurd z.symm h
def pG (c:UInt8):Int:=Lib.indexByte A9 c
theorem zeu (c:UInt8):0<=pG c↔A9.contains c=true:=by
 rw [pG,zcc,List.contains_iff_mem]
theorem zet (c:UInt8) (w:wD):Calls prog 121 #[.string { data:=#[40,41,123,125,91,93,44,58,59,61,43,45,42,47,37,38,94,60,124,46] },.int .u8 c.toNat] w fun e w' =>
  e = .returned (iP (pG c))/\w'=w:=by
 have h:=strings_IndexByte { data:=#[40,41,123,125,91,93,44,58,59,61,43,45,42,47,37,38,94,60,124,46] } c.toNat w
 rw [rZ] at h
 exact h
theorem zin {S:bA} {k:Nat} (j:k+1<S.size) (h:Gq.contains (S[k],S[k+1])=true):U9 (S.data.toList.drop k)=2:=by
 rw [Ue S k (by omega),Ue S (k+1) j,U9,if_pos h]
theorem aX {S:bA} {k:Nat} (z:k<S.size) (h:∀ N4:k+1<S.size,Gq.contains (S[k],S[k+1])=false):U9 (S.data.toList.drop k)=if A9.contains S[k] then 1 else 0:=by
 rw [Ue S k z]
 by_cases j:k+1<S.size
 ·rw [Ue S (k+1) j,U9,if_neg (by rw [h j]; decide)]
 ·rw [List.drop_eq_nil_of_le (by rw [Wz]; omega),U9]
theorem sA {w:wD} {mb:Nat} {D:DataW Unit} (z:w.ownsMap prog 166 unitElem mb 8 D) (j:O5 D) (a b:UInt8) {v:Bool} (hv:Gq.contains (a,b)=v) :
  (Instr.lookup 142 (.map (some mb)) (.agg #[.int .u8 a.toNat,.int .u8 b.toNat]) true).run prog w = .ok (.tuple #[.agg #[],.bool v]) w:=by
 subst hv
 obtain⟨v,ps,h,hv⟩:=z.look_ok bC underlying142 (zeroValue100 w) (zd := .agg []) (zp:=[]) unitElem_mk (uG a b)
 obtain⟨rfl,_⟩:=unitElem_inv hv
 rw [j a b _ (uG a b)] at h
 exact h
theorem zK (w:wD) (n:Nat) (o:Obj):w.grownBy ((w.drewN n).alloc o) none:=(Dc (World.grownBy.refl w none) n).trans (World.grownBy_alloc _ _ _)
theorem zik (S:bA) (hS:S.size<=65536) (sb mb k:Nat) (li ls:Int) (C:k<S.size) (w:wD) (A:Xi w sb S k li ls mb) (D:DataW Unit) (I:w.ownsMap prog 166 unitElem mb 8 D) (J:O5 D) :
  Calls prog 113 #[qP sb] w fun e w'=>e = .returned (iP (U9 (S.data.toList.drop k)))/\w.grownBy w' none:=by
 obtain⟨r,N⟩:=xE (U9 (S.data.toList.drop k))
 rw [<- N]
 have T:=Za N
 clear N
 have F:=Za (zet S[k])
 have H:=Za (zeu S[k])
 obtain⟨x,Z⟩:=xE (pG S[k])
 rw [<- Z] at F H
 clear Z
 have c0:=A.c0
 have c1:=A.c1
 have c4:=A.c4
 have z:0<=x∨x<0:=by omega
 by_cases hk:k+1<S.size
 ·have N4:(k:Int)+1<(S.size:Int):=by omega
  have Tt:(0:Int)<=(k:Int)+1:=by omega
  obtain⟨v,hv⟩:=xE (Gq.contains (S[k],S[k+1]))
  have hl:∀ n,(Instr.lookup 142 (.map (some mb)) (.agg #[.int .u8 S[k].toNat,.int .u8 S[k+1].toNat]) true).run prog (w.drewN n) = .ok (.tuple #[.agg #[],.bool v]) (w.drewN n) :=
   fun n=>sA (w:=w.drewN n) I J _ _ hv.symm
  have Uo:∀ n,(Instr.lookup 142 (.map (some mb)) (.agg #[.int .u8 S[k].toNat,.int .u8 S[k+1].toNat]) true).run prog ((w.drewN n).alloc (.cells #[] 100)) = .ok (.tuple #[.agg #[],.bool v]) ((w.drewN n).alloc (.cells #[] 100)) :=
   fun n=>sA (I.kept (zK w n _) (by simp)) J _ _ hv.symm
  have d0:∀ n,((w.drewN n).alloc (.cells #[] 100)).cell? (aP sb 0)=some (.string S):=fun n=>(A.kept (zK w n _) (by simp)).c0
  have d1:∀ n,((w.drewN n).alloc (.cells #[] 100)).cell? (aP sb 1)=some (iP k):=fun n=>(A.kept (zK w n _) (by simp)).c1
  have d4:∀ n,((w.drewN n).alloc (.cells #[] 100)).cell? (aP sb 4)=some (.map (some mb)):=fun n=>(A.kept (zK w n _) (by simp)).c4
  have V:=Za hv;clear A I J hv;cases v
  ·have j:=aX C (fun _=>V.o.symm)
   rw [<- T.o] at j
   have O:(0<=x/\r=1)∨(x<0/\r=0):=by
    rcases z with h | h
    ·exact .inl ⟨h,by rw [j,H.o.1 h]; rfl⟩
    ·refine .inr ⟨h,?_⟩
     rw [j,if_neg];intro M;have:=H.o.2 M;omega
   clear j z;go_enter func113,ntmps113;go_wp2
   go_quiet(fail)
   go_wp2;go_region
   all_goals
    clear hl Uo c0 c1 c4;rcases O with⟨h,rfl⟩ | ⟨h,rfl⟩
    ·go_wp2
     go_quiet((go_at_call 121; refine Calls.quiet_of_same (F.o _)))
     go_wp2;go_ret;exact⟨rfl,Dc (zK _ _ _) _⟩
    ·go_wp2
     go_quiet((go_at_call 121; refine Calls.quiet_of_same (F.o _)))
     go_wp2;go_ret;exact⟨rfl,Dc (zK _ _ _) _⟩
  ·have j:=zin hk V.o.symm
   rw [<- T.o] at j;subst j;go_enter func113,ntmps113;go_wp2
   go_quiet(fail)
   go_wp2;go_region
   all_goals
    go_wp2;go_ret;exact⟨rfl,zK _ _ _⟩
 ·have N4:¬ (k:Int)+1<(S.size:Int):=by omega
  have j:=aX C (fun h=>absurd h hk);rw [<- T.o] at j
  have O:(0<=x/\r=1)∨(x<0/\r=0):=by
   rcases z with h | h
   ·exact .inl ⟨h,by rw [j,H.o.1 h]; rfl⟩
   ·refine .inr ⟨h,?_⟩
    rw [j,if_neg];intro M;have:=H.o.2 M;omega
  clear A I J c4 j z;have C0:=Za c0;have C1:=Za c1;go_enter func113,ntmps113;go_wp2
  go_quiet(fail)
  go_wp2;generalize hw1:World.drewN w _=w1
  have Y:xQ (w.grownBy w1 none):=by rw [<- hw1]; exact Dc (World.grownBy.refl _ _) _
  have d0:w1.cell? (aP sb 0)=some (.string S):=by rw [<- hw1]; exact C0.o
  have d1:w1.cell? (aP sb 1)=some (iP k):=by rw [<- hw1]; exact C1.o
  clear c0 c1 hw1;rcases O with⟨h,rfl⟩ | ⟨h,rfl⟩
  ·go_quiet((go_at_call 121; refine Calls.quiet_of_same (F.o _)))
   go_wp2;go_ret;exact⟨rfl,Dc Y.o _⟩
  ·go_quiet((go_at_call 121; refine Calls.quiet_of_same (F.o _)))
   go_wp2;go_ret;exact⟨rfl,Dc Y.o _⟩
end Lx
namespace Lx
open Go.RowKit
def tS (S:bA) (sb mb k:Nat) (li ls:Int) (tb:Nat) (kd tl tc:Int) (w:wD) (n:Nat) (e:Ending) (w':wD):Prop :=
 if n=0 then e = .returned (iP 5)/\w.grownBy w' none else
  e = .returned (iP 0)/\Xi w' sb S ((k+n:Nat):Int) li ls mb/\Wp w' tb kd ⟨((S.data.toList.drop k).take n).toArray⟩ tl tc/\Wt w w' sb tb
theorem zgs (S:bA) (hS:S.size<=65536) (sb mb k:Nat) (li ls:Int) (hk:k<S.size) (tb:Nat) (Z:Int) (tx:bA) (M T:Int) (Z1:sb≠tb) (w:wD) (C:Xi w sb S k li ls mb) (J:Wp w tb Z tx M T)
  (D:DataW Unit) (O:w.ownsMap prog 166 unitElem mb 8 D) (hD:O5 D) :
  Calls prog 103 #[qP sb,qP tb] w (tS S sb mb k li ls tb Z M T w (U9 (S.data.toList.drop k))):=by
 have F:=zik S hS sb mb k li ls hk w C D O hD
 have V:=pS (S.data.toList.drop k)
 rw [List.length_drop,Wz] at V
 obtain⟨n,I⟩:=xE (U9 (S.data.toList.drop k))
 rw [<- I] at F V ⊢
 have N:=Za F
 have HS:=Za C
 have HT:=Za J
 clear I F C J O hD
 by_cases Y:n=0
 ·subst Y
  go_enter func103,ntmps103;go_wp2_with fail;refine N.o.mono ?_;rintro e w1 ⟨rfl,h⟩;have H:=Za h;clear h;go_wp2;go_ret;exact⟨rfl,H.o⟩
 have b0:((n:Int) == 0)=false:=by simp; omega
 have l1:(k:Int)+(n:Int)<=(S.size:Int):=by omega
 have l2:(k:Int)<=(k:Int)+(n:Int):=by omega
 go_enter func103,ntmps103
 go_wp2_with fail
 refine N.o.mono ?_
 rintro e w1 ⟨rfl,h⟩
 have H:=Za h
 have j:=HS.o.kept h (by simp)
 have z:=HT.o.kept h (by simp)
 have Y5:=Za j
 have Hq:=Za z
 have c0:=j.c0
 have c1:=j.c1
 have f1:=j.fz 1
 have t1:=z.c1
 have g1:=z.fz 1
 clear h j z
 go_wp2
 go_region
 all_goals
  have A:=Y5.o.kept (Dd w1 (aP tb 1) (.string (S.extract k (k+n)))) (by simpa using Z1);have Vn:=Za A;have d1:=A.c1;have e1:=A.fz 1;clear A;go_wp2;go_ret;rw [tS,if_neg Y];refine⟨rfl,Vn.o.set1 _,?_,?_⟩
  ·have:=(Hq.o.set1 (S.extract k (k+n))).kept (Dd _ (aP sb 1) (iP ((k:Int)+n))) (by simpa using Z1.symm)
   rw [Il,Nat.add_sub_cancel_left] at this;rw [Il,Nat.add_sub_cancel_left];exact this
  ·exact(((Wt.ofNone H.o sb tb).setR 1 _).setL 1 _).drew
theorem zcr {c x:UInt8} (h:Ft c=some x):∃ j:Nat,j<4/\R0 c=j/\(ByteArray.mk #[92,34,10,9])[j]?=some x:=by
 unfold Ft at h
 unfold R0
 repeat' split at h
 ·injection h with h; subst h; exact⟨0,by omega,by simp [*],rfl⟩
 ·injection h with h; subst h; exact⟨1,by omega,by simp [*],rfl⟩
 ·injection h with h; subst h; exact⟨2,by omega,by simp [*],rfl⟩
 ·injection h with h; subst h; exact⟨3,by omega,by simp [*],rfl⟩
 ·cases h
theorem zcq {c:UInt8} (h:Ft c=none):R0 c<0:=by
 unfold Ft at h
 unfold R0
 repeat' split at h
 ·cases h
 ·cases h
 ·cases h
 ·cases h
 ·rename_i z C j A
  rw [if_neg z,if_neg C,if_neg j,if_neg A]
  decide
def Qi (S:bA) (m:Nat) (acc:bS):Option (bS×bS):=Nu (S.data.toList.drop m) acc
section
variable {S : bA} {m : Nat} {acc : bS}
theorem rH (h:¬ m<S.size):Qi S m acc=none:=by
 unfold Qi
 rw [List.drop_eq_nil_of_le (by rw [Wz]; omega),zjf]
theorem rL (h:m<S.size) (j:S[m].toNat=34):Qi S m acc=some (acc,S.data.toList.drop (m+1)):=by
 unfold Qi
 rw [Ue S m h,show S[m]=34 from UInt8.toNat_inj.1 j,rU]
theorem rI (h:m<S.size) (j:S[m].toNat<32):Qi S m acc=none:=by
 unfold Qi
 rw [Ue S m h,rQ j]
theorem rK (h:m<S.size) (z:S[m].toNat≠34) (A:¬ S[m].toNat<32) (j:S[m].toNat≠92):Qi S m acc=Qi S (m+1) (acc ++ [S[m]]):=by
 unfold Qi
 rw [Ue S m h,rT (fun e=>z (by rw [e]; rfl)) A (fun e=>j (by rw [e]; rfl))]
theorem rG (h:m<S.size) (j:S[m].toNat=92) (h1:¬ m+1<S.size):Qi S m acc=none:=by
 unfold Qi
 rw [Ue S m h,show S[m]=92 from UInt8.toNat_inj.1 j,List.drop_eq_nil_of_le (by rw [Wz]; omega),rP]
theorem rJ (h:m<S.size) (A:S[m].toNat=92) (z:m+1<S.size) (j:Ft S[m+1]=none):Qi S m acc=none:=by
 unfold Qi
 rw [Ue S m h,show S[m]=92 from UInt8.toNat_inj.1 A,Ue S (m+1) z,rR j]
theorem rO (h:m<S.size) (A:S[m].toNat=92) (z:m+1<S.size) {x:UInt8} (j:Ft S[m+1]=some x):Qi S m acc=Qi S (m+2) (acc ++ [x]):=by
 unfold Qi
 rw [Ue S m h,show S[m]=92 from UInt8.toNat_inj.1 A,Ue S (m+1) z,rV j]
end
theorem bB {w:wD} {B e z n:Nat} {v:vL} {xs:List vL} (h:w.ownsRow B e z v n xs):∃ a cap,v = .slice a n cap:=by
 rcases h.2 with⟨j,A⟩ | ⟨g,cap,cur,j,_⟩
 ·exact⟨none,0,by rw [j,A]⟩
 ·exact⟨_,_,j⟩
theorem zfb {w:wD} {B e z n:Nat} {v:vL} {xs:List vL} (h:w.ownsRow B e z v n xs):xQ (∀ j,v.ownBlock=some j->B<=j):=by
 intro j A
 rcases h.2 with⟨C,F⟩ | ⟨g,cap,cur,C,F,_⟩
 ·rw [C] at A; cases A
 ·rw [C] at A
  simp [Value.ownBlock] at A;omega
theorem uZ {w wr w1:wD} {v v':vL} {acc:bS} {F:Obj} (x:UInt8) (z:w.grownBy wr none) (h:w1.ownsRow w.heap.size 5 1 v' (acc.length+1) (Ro acc ++ [.int .u8 x.toNat]))
  (C:(wr.alloc F).grownBy w1 v.ownBlock) (A:∀ j,v.ownBlock=some j->w.heap.size<=j):w1.ownsRow w.heap.size 5 1 v' (acc ++ [x]).length (Ro (acc ++ [x]))/\w.grownBy w1 none:=by
 refine⟨?_,(z.trans (World.grownBy_alloc _ _ _)).andThen C fun j H => .inl (A j H)⟩
 rw [oF,List.length_append]
 exact h
def tT (S:bA) (sb mb k:Nat) (li ls:Int) (tb:Nat) (kd tl tc:Int) (w:wD) (o:Option (bS×bS)) (e:Ending) (w':wD):Prop :=
 match o with
 | none=>e = .returned (iP 4)/\w.grownBy w' none
 | some (said,rest)=>if 256<said.length then e = .returned (iP 2)/\w.grownBy w' none else
   e = .returned (iP 0)/\∃ m:Nat,k<m/\m<=S.size/\rest=S.data.toList.drop m/\Xi w' sb S m li ls mb/\Wp w' tb kd ⟨said.toArray⟩ tl tc/\Wt w w' sb tb
theorem zgt (S:bA) (hS:S.size<=65536) (sb mb k:Nat) (li ls:Int) (hk:k<S.size) (tb:Nat) (kd:Int) (tx:bA) (tl tc:Int) (Z1:sb≠tb) (w:wD) (C:Xi w sb S k li ls mb) (J:Wp w tb kd tx tl tc) :
  Calls prog 102 #[qP sb,qP tb] w (tT S sb mb k li ls tb kd tl tc w (Qi S (k+1) [])):=by
 obtain⟨o,ho⟩:=xE (Qi S (k+1) [])
 rw [<- ho]
 have HO:=Za ho
 have HS:=Za C
 have HT:=Za J
 have c0:=C.c0
 have c1:=C.c1
 clear ho C J
 obtain⟨O,Z,T,Y,Xw⟩:=info_parts zcf
 go_enter func102,ntmps102
 go_wp2
 go_loopw [5,6] (fun v i wr=>∃ (m:Nat) (acc:bS),k+1<=m/\m<=S.size+1/\i=iP m/\acc.length<=m/\wr.ownsRow w.heap.size 5 1 v acc.length (Ro acc)/\w.grownBy wr none/\o=Qi S m acc) (fun _ i _=>S.size+1 - (intOf i).toNat)
 case atStart=>exact⟨k+1,[],xR,by omega,by go_num,by simp,World.ownsRow_nil _ _ _ _,World.grownBy.refl _ _,HO.o⟩
 case round =>
  obtain⟨m,acc,hm,Kk,rfl,Bf,h,N,hrel⟩:=hrel;have I:=Za hrel;have z:=Za N;have C:=HS.o.kept N (by simp);have J:=HT.o.kept N (by simp);have HSC:=Za C;have HTK:=Za J;have d0:=C.c0;have d1:=C.c1;have f1:=C.fz 1;have t1:=J.c1;have g1:=J.fz 1;have A:=Za h;have hsz:=N.size;obtain⟨a,cap,rfl⟩:=bB h;have Yo:=zfb h;clear hrel N C J c0 c1;by_cases H:m<S.size
  ·by_cases b1:S[m].toNat=34
   ·have p1:((S[m].toNat:Int) == 34)=true:=by simp; omega
    have e:=I.o.trans (rL H b1);have hcv:=o7 h;clear h;by_cases hl:256<acc.length
    ·subst e
     go_wp2;go_ret;simp only [tT,if_pos hl];exact⟨rfl,z.o⟩
    ·subst e
     go_wp2;go_ret;simp only [tT,if_neg hl];refine⟨rfl,m+1,by omega,by omega,rfl,?_,?_,?_⟩
     ·exact(HSC.o.kept (Dd wr (aP tb 1) _) (by simpa using Z1)).set1 (m+1)
     ·exact(HTK.o.set1 _).kept (Dd _ (aP sb 1) _) (by simpa using Z1.symm)
     ·exact((Wt.ofNone z.o sb tb).setR 1 _).setL 1 _
   have n1:((S[m].toNat:Int) == 34)=false:=by simp; omega
   by_cases b2:S[m].toNat<32
   ·have e:=I.o.trans (rI H b2)
    have p2:(S[m].toNat:Int)<32:=by omega
    clear h;subst e;go_wp2;go_ret;exact⟨rfl,z.o⟩
   have n2:¬ (S[m].toNat:Int)<32:=by omega
   by_cases b3:S[m].toNat=92
   ·have p3:((S[m].toNat:Int) == 92)=true:=by simp; omega
    by_cases Xz:m+1<S.size
    ·have M:=zct S (m+1) Xz
     cases hu:Ft S[m+1] with
     | none =>
      have e:=I.o.trans (rJ H b3 Xz hu);have V:=zcq hu;obtain⟨x,hx⟩:=xE (R0 S[m+1]);rw [<- hx] at M V;have F:=Za M;clear h M hx hu;subst e;go_wp2_with fail;refine(F.o _).mono ?_;rintro e w' ⟨rfl,rfl⟩;go_wp2;go_ret;exact⟨rfl,z.o⟩
     | some x =>
      have e:=Za (I.o.trans (rO H b3 Xz hu));obtain⟨j,hj,hjx,St⟩:=zcr hu;rw [hjx] at M;have F:=Za M;clear M hjx hu
      have hj4:(j=0/\x=92)∨(j=1/\x=34)∨(j=2/\x=10)∨(j=3/\x=9):=by
       match j,hj with
       | 0,_=>exact .inl ⟨rfl,(Option.some.inj St).symm⟩
       | 1,_=>exact .inr (.inl ⟨rfl,(Option.some.inj St).symm⟩)
       | 2,_=>exact .inr (.inr (.inl ⟨rfl,(Option.some.inj St).symm⟩))
       | 3,_=>exact .inr (.inr (.inr ⟨rfl,(Option.some.inj St).symm⟩))
      clear St hj;rcases hj4 with⟨rfl,rfl⟩ | ⟨rfl,rfl⟩ | ⟨rfl,rfl⟩ | ⟨rfl,rfl⟩
      ·go_wp2_with fail
       refine(F.o _).mono ?_;rintro e w' ⟨rfl,rfl⟩
       go_wp2_with(at_builtin; refine wpList_append_own _ rfl (.tmp 60) (.tmp 62) 173 rfl w.heap.size 5 O (.int .u8 0) 1 1 underlying173 Z T Y Xw rfl (by decide) _ _ _ rfl (A.o.alloc _) (aP _ 0) 1 1 [.int .u8 92] rfl rfl (vP _ 92 5) (wB 92) (by unfold maxLen; omega) (by omega) (by simp; omega) ?_)
       intro v' w1 Zr Zo _;have R:=Za (uZ 92 z.o Zr Zo Yo.o);clear Zr Zo h;go_wp2
       go_roundw
       case rel=>exact⟨m+2,acc ++ [92],by omega,by omega,by go_num,by simp; omega,R.o.1,R.o.2,e.o⟩
       case measure=>simp [intOf]; omega
      ·go_wp2_with fail
       refine(F.o _).mono ?_;rintro e w' ⟨rfl,rfl⟩
       go_wp2_with(at_builtin; refine wpList_append_own _ rfl (.tmp 60) (.tmp 62) 173 rfl w.heap.size 5 O (.int .u8 0) 1 1 underlying173 Z T Y Xw rfl (by decide) _ _ _ rfl (A.o.alloc _) (aP _ 0) 1 1 [.int .u8 34] rfl rfl (vP _ 34 5) (wB 34) (by unfold maxLen; omega) (by omega) (by simp; omega) ?_)
       intro v' w1 Zr Zo _;have R:=Za (uZ 34 z.o Zr Zo Yo.o);clear Zr Zo h;go_wp2
       go_roundw
       case rel=>exact⟨m+2,acc ++ [34],by omega,by omega,by go_num,by simp; omega,R.o.1,R.o.2,e.o⟩
       case measure=>simp [intOf]; omega
      ·go_wp2_with fail
       refine(F.o _).mono ?_;rintro e w' ⟨rfl,rfl⟩
       go_wp2_with(at_builtin; refine wpList_append_own _ rfl (.tmp 60) (.tmp 62) 173 rfl w.heap.size 5 O (.int .u8 0) 1 1 underlying173 Z T Y Xw rfl (by decide) _ _ _ rfl (A.o.alloc _) (aP _ 0) 1 1 [.int .u8 10] rfl rfl (vP _ 10 5) (wB 10) (by unfold maxLen; omega) (by omega) (by simp; omega) ?_)
       intro v' w1 Zr Zo _;have R:=Za (uZ 10 z.o Zr Zo Yo.o);clear Zr Zo h;go_wp2
       go_roundw
       case rel=>exact⟨m+2,acc ++ [10],by omega,by omega,by go_num,by simp; omega,R.o.1,R.o.2,e.o⟩
       case measure=>simp [intOf]; omega
      ·go_wp2_with fail
       refine(F.o _).mono ?_;rintro e w' ⟨rfl,rfl⟩
       go_wp2_with(at_builtin; refine wpList_append_own _ rfl (.tmp 60) (.tmp 62) 173 rfl w.heap.size 5 O (.int .u8 0) 1 1 underlying173 Z T Y Xw rfl (by decide) _ _ _ rfl (A.o.alloc _) (aP _ 0) 1 1 [.int .u8 9] rfl rfl (vP _ 9 5) (wB 9) (by unfold maxLen; omega) (by omega) (by simp; omega) ?_)
       intro v' w1 Zr Zo _;have R:=Za (uZ 9 z.o Zr Zo Yo.o);clear Zr Zo h;go_wp2
       go_roundw
       case rel=>exact⟨m+2,acc ++ [9],by omega,by omega,by go_num,by simp; omega,R.o.1,R.o.2,e.o⟩
       case measure=>simp [intOf]; omega
    ·have e:=I.o.trans (rG H b3 Xz)
     have F:=Za (zcu S (m+1) (by omega));clear h;subst e;go_wp2_with fail;refine(F.o _).mono ?_;rintro e w' ⟨rfl,rfl⟩;go_wp2;go_ret;exact⟨rfl,z.o⟩
   have n3:((S[m].toNat:Int) == 92)=false:=by simp; omega
   have e:=Za (I.o.trans (rK H b1 b2 b3))
   go_wp2_with(at_builtin; refine wpList_append_own _ rfl (.tmp 60) (.tmp 62) 173 rfl w.heap.size 5 O (.int .u8 0) 1 1 underlying173 Z T Y Xw rfl (by decide) _ _ _ rfl (A.o.alloc _) (aP _ 0) 1 1 [.int .u8 S[m].toNat] rfl rfl (vP _ S[m].toNat 5) (wB S[m].toNat) (by unfold maxLen; omega) (by omega) (by simp; omega) ?_)
   intro v' w1 Zr Zo _;have R:=Za (uZ S[m] z.o Zr Zo Yo.o);clear Zr Zo h;go_wp2
   go_roundw
   case rel=>exact⟨m+1,acc ++ [S[m]],by omega,by omega,by go_num,by simp; omega,R.o.1,R.o.2,e.o⟩
   case measure=>simp [intOf]; omega
  ·have e:=I.o.trans (rH H)
   clear h;subst e;go_wp2;go_ret;exact⟨rfl,z.o⟩
def vG (S:bA) (sb mb k:Nat) (li ls:Int) (tb:Nat) (tl tc:Int) (w:wD) (r:Rd) (e:Ending) (w':wD):Prop :=
 match r with
 | .inl x=>e = .returned (iP x)/\x≠0/\(∃ kd tx,Wp w' tb kd tx tl tc)/\Wt w w' sb tb
 | .inr (kind,text,rest)=>e = .returned (iP 0)/\∃ m:Nat,k<m/\m<=S.size/\rest=S.data.toList.drop m/\Xi w' sb S m li ls mb/\Wp w' tb kind ⟨text.toArray⟩ tl tc/\Wt w w' sb tb
theorem Oe {S:bA} {k:Nat} (j:k<S.size):U1 (S.data.toList.drop k) =
  if Tw S[k] then
   if 32<((S.data.toList.drop k).takeWhile Xm).length then .bad 2
   else .tok (if P5.contains ((S.data.toList.drop k).takeWhile Xm)then 2 else 1) ((S.data.toList.drop k).takeWhile Xm) (S.data.toList.drop (Wk S k Xm))
  else if Xh S[k] then
   match Ns ((S.data.toList.drop k).takeWhile Xh)with
   | none => .bad 3
   | some _ => .tok 3 ((S.data.toList.drop k).takeWhile Xh) (S.data.toList.drop (Wk S k Xh))
  else if S[k]=34 then
   match Qi S (k+1) [] with
   | none => .bad 4
   | some (said,rest)=>if 256<said.length then .bad 2 else .tok 4 said rest
  else if U9 (S.data.toList.drop k)=0 then .bad 5
  else .tok 5 ((S.data.toList.drop k).take (U9 (S.data.toList.drop k))) (S.data.toList.drop (k+U9 (S.data.toList.drop k))):=by
 rw [mS,mS,<- List.drop_drop]
 unfold Qi
 have e:=Ue S k j
 obtain⟨l,h⟩:=xE (S.data.toList.drop k)
 rw [<- h] at e ⊢
 conv=>lhs; rw [e]
 rw [U1,<- e]
 rfl
theorem pN {S:bA} {k:Nat} {p:UInt8->Bool} (j:k<S.size) (h:p S[k]=true):k<Wk S k p:=by
 rw [zS j h]
 unfold Wk
 omega
theorem bU (l:bS):(ByteArray.mk l.toArray).size=l.length:=by simp [ByteArray.size]
theorem zgw (S:bA) (hS:S.size<=65536) (sb mb k li ls:Nat) (hk:k<S.size) (tb:Nat) (kd:Int) (tx:bA) (tl tc:Int) (C:sb≠tb) (w:wD) (V:Xi w sb S k li ls mb) (V3:Wp w tb kd tx tl tc)
  (hw:Words w) (Tl:0≠sb) (N:0≠tb) (Z:Tw S[k]=true) :
  Calls prog 80 #[qP sb,qP tb] w (vG S sb mb k li ls tb tl tc w (U1 (S.data.toList.drop k))):=by
 rw [Oe hk,Z,if_pos rfl]
 have Zb:=wO S[k]
 rw [Z] at Zb
 have Zx:=Za Zb
 have I:=zhl S hS sb mb k li ls (by omega) 
 have yT:=pN (p:=Xm) hk (by simp [Xm,Z])
 have Px:=Oh S k Xm (by omega)
 have z:((S.data.toList.drop k).takeWhile Xm).length<=65536:=by
  have:k+((S.data.toList.drop k).takeWhile Xm).length=Wk S k Xm:=rfl;omega
 obtain⟨r,hr⟩:=xE (Wk S k Xm)
 obtain⟨t,ht⟩:=xE ((S.data.toList.drop k).takeWhile Xm)
 rw [<- hr] at I yT Px ⊢
 rw [<- ht] at I z ⊢
 obtain⟨T,M⟩:∃ T:ByteArray,T=⟨t.toArray⟩:=⟨_,rfl⟩
 rw [<- M] at I
 have J:T.size=t.length:=by rw [M,bU]
 have O:T.data.toList=t:=by rw [M]
 have B3:=Za I
 have HS:=Za V
 have HT:=Za V3
 have HW:=Za hw
 have H:=Za M
 have c0:=V.c0
 have c1:=V.c1
 have hkI:(k:Int)<(S.size:Int):=by omega
 have hw2:T.size<=32∨32<T.size:=by omega
 have hTs2:T.size<=65536:=by omega
 obtain⟨R,hR⟩:=xE ((if 32<t.length then Rd.bad 2 else Rd.tok (if P5.contains t=true then 2 else 1) t (List.drop r S.data.toList)))
 rw [<- hR]
 have Ud:=Za hR
 clear hR
 have F:=Za J
 have HTD:=Za O
 clear Zb I hr ht V V3 hw Z M J O z
 go_enter func80,ntmps80
 go_wp2
 go_quiet(fail)
 go_wp2_with fail
 refine(Zx.o _).mono ?_
 rintro e w' ⟨rfl,rfl⟩
 go_wp2_with fail
 refine(B3.o _ (by exact HS.o)).mono ?_
 rintro e w1 ⟨rfl,Xq,V9⟩
 have j:=Za ((Wt.refl w sb tb).drewN _ |>.trans (Wt.ofL V9 tb))
 have A:=Wp.kept (w:=World.drewN w _) HT.o V9 (by simpa using C.symm)
 have Hq:=Za A
 have Y5:=Za Xq
 have t1:=A.c1
 have g0:=A.fz 0
 have g1:=A.fz 1
 have t0:=A.c0
 clear Xq V9 A
 rcases hw2 with h32 | h32
 ·have Y:¬ 32<t.length:=by have:=F.o; omega
  have h:=g9 T;rw [HTD.o] at h;cases hq:P5.contains t
  ·rw [hq] at h
   have HC:=Za h;have HQ:=Za hq;clear h hq;go_wp2_with fail;refine(HC.o _ ?_).mono ?_
   ·exact((j.o.setR 1 _).setR 0 _).words HW.o Tl N
   rintro e w' ⟨rfl,rfl⟩;go_wp2;go_ret;rw [Ud.o,if_neg Y,HQ.o];refine⟨rfl,r,yT,Px,rfl,?_,?_,?_⟩
   ·exact(Y5.o.kept (Dd _ (aP tb 1) _) (by simpa using C)).kept (Dd _ (aP tb 0) _) (by simpa using C)
   ·rw [<- H.o]
    exact(Hq.o.set1 T).set0 1
   ·exact(j.o.setR 1 _).setR 0 _
  ·rw [hq] at h
   have HC:=Za h;have HQ:=Za hq;clear h hq;go_wp2_with fail;refine(HC.o _ ?_).mono ?_
   ·exact((j.o.setR 1 _).setR 0 _).words HW.o Tl N
   rintro e w' ⟨rfl,rfl⟩;go_wp2;go_ret;rw [Ud.o,if_neg Y,HQ.o];refine⟨rfl,r,yT,Px,rfl,?_,?_,?_⟩
   ·exact((Y5.o.kept (Dd _ (aP tb 1) _) (by simpa using C)).kept (Dd _ (aP tb 0) _) (by simpa using C)).kept (Dd _ (aP tb 0) _) (by simpa using C)
   ·rw [<- H.o]
    exact((Hq.o.set1 T).set0 1).set0 2
   ·exact((j.o.setR 1 _).setR 0 _).setR 0 _
 ·have Y:32<t.length:=by have:=F.o; omega
  go_wp2;go_ret;rw [Ud.o,if_pos Y];exact⟨rfl,by decide,⟨_,_,Hq.o.set1 T⟩,j.o.setR 1 _⟩
theorem zgv (S:bA) (hS:S.size<=65536) (sb mb k li ls:Nat) (hk:k<S.size) (tb:Nat) (kd:Int) (tx:bA) (tl tc:Int) (Z:sb≠tb) (w:wD) (V:Xi w sb S k li ls mb) (V3:Wp w tb kd tx tl tc)
  (hl:Tw S[k]=false) (Y:Xh S[k]=true) :
  Calls prog 80 #[qP sb,qP tb] w (vG S sb mb k li ls tb tl tc w (U1 (S.data.toList.drop k))):=by
 have Zb:=wO S[k]
 have Tk:=uA S[k]
 rw [hl] at Zb
 rw [Y] at Tk
 have Zx:=Za Zb
 have I:=Za Tk
 have J:=zhj S hS sb mb k li ls (by omega)
 have yT:=pN (p:=Xh) hk Y
 have Px:=Oh S k Xh (by omega)
 have A:((S.data.toList.drop k).takeWhile Xh).length<=65536:=by
  have:k+((S.data.toList.drop k).takeWhile Xh).length=Wk S k Xh:=rfl;omega
 obtain⟨R,z⟩:=xE (U1 (S.data.toList.drop k))
 rw [<- z]
 rw [Oe hk,hl,if_neg (by decide),Y,if_pos rfl] at z
 obtain⟨r,hr⟩:=xE (Wk S k Xh)
 obtain⟨t,ht⟩:=xE ((S.data.toList.drop k).takeWhile Xh)
 rw [<- hr] at J yT Px z
 rw [<- ht] at J A z
 obtain⟨T,M⟩:∃ T:ByteArray,T=⟨t.toArray⟩:=⟨_,rfl⟩
 rw [<- M] at J
 have hTs:T.size=t.length:=by rw [M,bU]
 have N:T.data.toList=t:=by rw [M]
 have h:=parse_c T (by omega)
 rw [N] at h
 have B3:=Za J
 have HS:=Za V
 have HT:=Za V3
 have HTT:=Za M
 have c0:=V.c0
 have c1:=V.c1
 have hkI:(k:Int)<(S.size:Int):=by omega
 clear Zb Tk J hr ht V V3 hl Y M hTs N A
 cases hv:Ns t with
 | none =>
  rw [hv] at h z;have C:=Za h;have Ud:=Za z;clear h z hv;go_enter func80,ntmps80;go_wp2
  go_quiet(fail)
  go_wp2_with fail;refine(Zx.o _).mono ?_;rintro e w' ⟨rfl,rfl⟩;go_wp2_with fail;refine(I.o _).mono ?_;rintro e w' ⟨rfl,rfl⟩;go_wp2_with fail;refine(B3.o _ (by exact HS.o)).mono ?_;rintro e w1 ⟨rfl,O,F⟩;have H:=Za ((Wt.refl w sb tb).drewN _ |>.trans (Wt.ofL F tb));have j:=Wp.kept (w:=World.drewN w _) HT.o F (by simpa using Z.symm);have Hq:=Za j;have Y5:=Za O;have t1:=j.c1
  have g0:=j.fz 0;have g1:=j.fz 1;have t0:=j.c0;clear O F j;go_wp2_with fail;refine(C.o _).mono ?_;rintro e w' ⟨rfl,rfl⟩;simp only [Cp,Option.getD_none,Option.isSome_none];go_wp2;go_ret;rw [Ud.o];exact⟨rfl,by decide,⟨_,_,(Hq.o.set0 3).set1 T⟩,(H.o.setR 0 _).setR 1 _⟩
 | some x =>
  rw [hv] at h z;have C:=Za h;have Ud:=Za z;clear h z hv;go_enter func80,ntmps80;go_wp2
  go_quiet(fail)
  go_wp2_with fail;refine(Zx.o _).mono ?_;rintro e w' ⟨rfl,rfl⟩;go_wp2_with fail;refine(I.o _).mono ?_;rintro e w' ⟨rfl,rfl⟩;go_wp2_with fail;refine(B3.o _ (by exact HS.o)).mono ?_;rintro e w1 ⟨rfl,O,F⟩;have H:=Za ((Wt.refl w sb tb).drewN _ |>.trans (Wt.ofL F tb));have j:=Wp.kept (w:=World.drewN w _) HT.o F (by simpa using Z.symm);have Hq:=Za j;have Y5:=Za O;have t1:=j.c1
  have g0:=j.fz 0;have g1:=j.fz 1;have t0:=j.c0;clear O F j;go_wp2_with fail;refine(C.o _).mono ?_;rintro e w' ⟨rfl,rfl⟩;simp only [Cp,Option.getD_some,Option.isSome_some];go_wp2;go_ret;rw [Ud.o];refine⟨rfl,r,yT,Px,rfl,?_,?_,?_⟩
  ·exact(Y5.o.kept (Dd _ (aP tb 0) _) (by simpa using Z)).kept (Dd _ (aP tb 1) _) (by simpa using Z)
  ·rw [<- HTT.o]
   exact(Hq.o.set0 3).set1 T
  ·exact(H.o.setR 0 _).setR 1 _
theorem zgz (S:bA) (hS:S.size<=65536) (sb mb k li ls:Nat) (hk:k<S.size) (tb:Nat) (kd:Int) (tx:bA) (Y Z:Int) (Z1:sb≠tb) (w:wD) (J:Xi w sb S k li ls mb) (M:Wp w tb kd tx Y Z)
  (hq:S[k].toNat=34) :
  Calls prog 80 #[qP sb,qP tb] w (vG S sb mb k li ls tb Y Z w (U1 (S.data.toList.drop k))):=by
 have j:S[k]=34:=UInt8.toNat_inj.1 hq
 have A:Tw S[k]=false:=by rw [j]; decide
 have hd:Xh S[k]=false:=by rw [j]; decide
 have Zb:=wO S[k]
 have V:=uA S[k]
 rw [A] at Zb
 rw [hd] at V
 have Zx:=Za Zb
 have O:=Za V
 rw [Oe hk,A,if_neg (by decide),hd,if_neg (by decide),if_pos j]
 have F:=zgt S hS sb mb k li ls hk tb 4 tx Y Z Z1
 obtain⟨o,ho⟩:=xE (Qi S (k+1) [])
 rw [<- ho] at F ⊢
 have HRS:=Za F
 have HS:=Za J
 have N:=Za M
 have c0:=J.c0
 have c1:=J.c1
 have t0:=M.c0
 have g0:=M.fz 0
 have hkI:(k:Int)<(S.size:Int):=by omega
 have p1:((S[k].toNat:Int) == 34)=true:=by simp; omega
 obtain⟨R,hR⟩:=xE ((match o with | none=>Rd.bad 4 | some (h,z)=>if 256<h.length then .bad 2 else .tok 4 h z))
 rw [<- hR]
 have T:=Za hR
 clear Zb V F ho J M A hd hq j hR
 go_enter func80,ntmps80
 go_wp2
 go_quiet(fail)
 go_wp2_with fail
 refine(Zx.o _).mono ?_
 rintro e w' ⟨rfl,rfl⟩
 go_wp2_with fail
 refine(O.o _).mono ?_
 rintro e w' ⟨rfl,rfl⟩
 go_wp2_with fail
 have C:xQ (∀ n,Wt w ((w.drewN n).setCell (aP tb 0) (iP 4)) sb tb):=fun n=>((Wt.refl w sb tb).drewN n).setR 0 _
 refine(HRS.o _ ?_ ?_).mono ?_
 ·exact Xi.kept (w:=World.drewN w _) HS.o (Dd _ (aP tb 0) _) (by simpa using Z1)
 ·exact Wp.set0 (w:=World.drewN w _) N.o 4
 intro e w1 hp
 have HP:=Za hp
 clear hp
 cases o with
 | none =>
  obtain⟨rfl,H⟩:=HP.o;have HG:=Za H;have Hq:=Za ((Wp.set0 (w:=World.drewN w _) N.o 4).kept H (by simp));clear H;go_wp2;go_ret;rw [T.o];exact⟨rfl,by decide,⟨_,_,Hq.o⟩,(C.o _).trans (.ofNone HG.o sb tb)⟩
 | some sr =>
  obtain⟨h,z⟩:=sr;have I:=HP.o;unfold tT at I;simp only at I;by_cases A:256<h.length
  ·rw [if_pos A] at I
   obtain⟨rfl,H⟩:=I;have HG:=Za H;have Hq:=Za ((Wp.set0 (w:=World.drewN w _) N.o 4).kept H (by simp));clear H;go_wp2;go_ret;rw [T.o];simp only [if_pos A];exact⟨rfl,by decide,⟨_,_,Hq.o⟩,(C.o _).trans (.ofNone HG.o sb tb)⟩
  ·rw [if_neg A] at I
   obtain⟨rfl,m,h3,h4,h5,h6,h7,h8⟩:=I;have H6:=Za h6;have H7:=Za h7;have H8:=Za h8;have H5:=Za h5;clear h5 h6 h7 h8;go_wp2;go_ret;rw [T.o];simp only [if_neg A];exact⟨rfl,m,h3,h4,H5.o,H6.o,H7.o,(C.o _).trans H8.o⟩
theorem zgy (S:bA) (hS:S.size<=65536) (sb mb k li ls:Nat) (hk:k<S.size) (tb:Nat) (kd:Int) (tx:bA) (N O:Int) (Z1:sb≠tb) (w:wD) (C:Xi w sb S k li ls mb) (F:Wp w tb kd tx N O)
  (D:DataW Unit) (Wh:w.ownsMap prog 166 unitElem mb 8 D) (hD:O5 D) (J:mb≠tb)
  (hl:Tw S[k]=false) (V:Xh S[k]=false) (hq:¬ S[k].toNat=34) :
  Calls prog 80 #[qP sb,qP tb] w (vG S sb mb k li ls tb N O w (U1 (S.data.toList.drop k))):=by
 have j:¬ S[k]=34:=fun e=>hq (by rw [e]; rfl)
 have Z:=wO S[k]
 have M:=uA S[k]
 rw [hl] at Z
 rw [V] at M
 have Zx:=Za Z
 have I:=Za M
 rw [Oe hk,hl,if_neg (by decide),V,if_neg (by decide),if_neg j]
 have h:=fun w a b c=>zgs S hS sb mb k li ls hk tb 5 tx N O Z1 w a b D c hD
 have Px:=pS (S.data.toList.drop k)
 rw [List.length_drop,Wz] at Px
 obtain⟨n,hn⟩:=xE (U9 (S.data.toList.drop k))
 rw [<- hn] at h Px ⊢
 have Y:=Za h
 have HS:=Za C
 have HT:=Za F
 have HO:=Za Wh
 have c0:=C.c0
 have c1:=C.c1
 have t0:=F.c0
 have g0:=F.fz 0
 have hkI:(k:Int)<(S.size:Int):=by omega
 have p1:((S[k].toNat:Int) == 34)=false:=by simp; omega
 obtain⟨R,hR⟩:=xE ((if n=0 then Rd.bad 5 else .tok 5 ((S.data.toList.drop k).take n) (S.data.toList.drop (k+n))))
 rw [<- hR]
 have Ud:=Za hR
 clear Z M h hn C F hl V hq j hR Wh hD
 go_enter func80,ntmps80
 go_wp2
 go_quiet(fail)
 go_wp2_with fail
 refine(Zx.o _).mono ?_
 rintro e w' ⟨rfl,rfl⟩
 go_wp2_with fail
 refine(I.o _).mono ?_
 rintro e w' ⟨rfl,rfl⟩
 go_wp2_with fail
 have z:xQ (∀ n,Wt w ((w.drewN n).setCell (aP tb 0) (iP 5)) sb tb):=fun n=>((Wt.refl w sb tb).drewN n).setR 0 _
 refine(Y.o _ ?_ ?_ ?_).mono ?_
 ·exact Xi.kept (w:=World.drewN w _) HS.o (Dd _ (aP tb 0) _) (by simpa using Z1)
 ·exact Wp.set0 (w:=World.drewN w _) HT.o 5
 ·exact World.ownsMap.setCell (w:=World.drewN w _) HO.o J _
 intro e w1 hp
 have HP:=Za hp
 clear hp
 by_cases H:n=0
 ·have A:=HP.o
  rw [tS,if_pos H] at A;obtain⟨rfl,T⟩:=A;have HG:=Za T;have Hq:=Za ((Wp.set0 (w:=World.drewN w _) HT.o 5).kept T (by simp));clear T;go_wp2;go_ret;rw [Ud.o,if_pos H];exact⟨rfl,by decide,⟨_,_,Hq.o⟩,(z.o _).trans (.ofNone HG.o sb tb)⟩
 ·have A:=HP.o
  rw [tS,if_neg H] at A;obtain⟨rfl,h6,h7,h8⟩:=A;have H6:=Za h6;have H7:=Za h7;have H8:=Za h8;clear h6 h7 h8;go_wp2;go_ret;rw [Ud.o,if_neg H];exact⟨rfl,k+n,by omega,by omega,rfl,H6.o,H7.o,(z.o _).trans H8.o⟩
theorem bJ (S:bA) (H:S.size<=65536) (sb mb k li ls:Nat) (J:k<S.size) (tb:Nat) (A:Int) (z:bA) (h j:Int) (I:sb≠tb) (w:wD) (C:Xi w sb S k li ls mb) (F:Wp w tb A z h j)
  (Z:Words w) (T:0≠sb) (N:0≠tb) (D:DataW Unit) (V:w.ownsMap prog 166 unitElem mb 8 D) (Y:O5 D) (M:mb≠tb) :
  Calls prog 80 #[qP sb,qP tb] w (vG S sb mb k li ls tb h j w (U1 (S.data.toList.drop k))):=by
 cases hl:Tw S[k]
 ·cases hd:Xh S[k]
  ·by_cases O:S[k].toNat=34
   ·exact zgz S H sb mb k li ls J tb A z h j I w C F O
   ·exact zgy S H sb mb k li ls J tb A z h j I w C F D V Y M hl hd O
  ·exact zgv S H sb mb k li ls J tb A z h j I w C F hl hd
 ·exact zgw S H sb mb k li ls J tb A z h j I w C F Z T N hl
end Lx
namespace Lx
def Sl (R:Lx) (rest:bS) (li co:Nat) (acc:List Tok):Prop :=
 ∃ f l0 li0 co0,Vf false l0 li0 co0=(rest,li,co)/\rest.length<=f/\R=(Kn (f+1) l0 li0 co0 acc.length).pre acc
theorem fN {l j:bS} {li co:Nat} (hl:l.length<=65536) (h:Vf false l 1 1=(j,li,co)):Sl (Pz l) j li co []:=by
 refine⟨l.length,l,1,1,h,?_,?_⟩
 ·have:=uU false l 1 1
  rw [h] at this;exact this.length_le
 ·rw [Pz,if_neg (by omega),zfr]
  rfl
theorem fL {R:Lx} {li co:Nat} {acc:List Tok} (h:Sl R [] li co acc):R = .toks (acc ++ [⟨0,[],li,co⟩]):=by
 obtain⟨f,l0,li0,co0,j,_,z⟩:=h
 rw [z,lexGo_end j]
 rfl
theorem fK {R:Lx} {j:bS} {li co:Nat} {acc:List Tok} {e:Int} (h:Sl R j li co acc) (C:j≠[]) (z:U1 j = .bad e):R = .bad e li co:=by
 obtain⟨f,l0,li0,co0,A,_,F⟩:=h
 rw [F,lexGo_bad A C z]
 rfl
theorem fM {R:Lx} {j t F:bS} {li co:Nat} {acc:List Tok} {k:Int} (h:Sl R j li co acc) (A:j≠[]) (H:U1 j = .tok k t F) (C:acc.length=8192):R = .bad 19 li co:=by
 obtain⟨f,l0,li0,co0,z,_,I⟩:=h
 rw [I,C,lexGo_many z A H]
 rfl
theorem fO {R:Lx} {j t z F:bS} {li co C A:Nat} {acc:List Tok} {k:Int} (h:Sl R j li co acc) (M:j≠[]) (H:U1 j = .tok k t z) (N:acc.length≠8192)
  (I:Vf false z li (co+(j.length - z.length))=(F,C,A)):Sl R F C A (acc ++ [⟨k,t,li,co⟩]):=by
 obtain⟨f,l0,li0,co0,J,hf,V⟩:=h
 obtain⟨c,O,T⟩:=pL H
 have Zt:z.length<j.length:=by
  rw [O,List.length_append];have:=List.length_pos_iff.2 T;omega
 obtain⟨g,rfl⟩:∃ g,f=g+1:=⟨f - 1,by omega⟩
 refine⟨g,z,li,_,I,?_,?_⟩
 ·have:=uU false z li (co+(j.length - z.length))
  rw [I] at this;have:=this.length_le;simp at this;omega
 ·rw [V,lexGo_tok J M H N,zfs,List.length_append]
  rfl
end Lx
namespace Lx
open Go.RowKit
def Tok.cells (t:Tok):List vL:=[iP t.kind,uP t.text,iP t.line,iP t.col]
def tokCells (ts:List Tok):List vL:=ts.flatMap Tok.cells
theorem eA (ts:List Tok) (t:Tok):tokCells (ts ++ [t])=tokCells ts ++ Tok.cells t:=by simp [tokCells]
def diagA (li co e:Int):vL := .agg #[iP 0,iP li,iP co,iP e]
def LexPost (w:wD) (R:Lx) (e:Ending) (w':wD):Prop :=
 Below w.heap.size w w'/\match R with
 | .inr (x,li,co)=>e = .returned (.tuple #[nP,diagA li co x])
 | .inl ts=>∃ g cap,e = .returned (.tuple #[lP g ts.length cap,diagA 0 0 0])/\w'.ownsRow w.heap.size 121 4 (lP g ts.length cap) ts.length (tokCells ts)
theorem results_tmp_cell {F:Func} {p u:Tmp} {z:TypeId} (h:F.results=#[.tmp u,.cell p z]) (j:Array vL) {P:Program} {w:wD} {g:Nat} {t:TypeId} {cs:Array vL} {C:Nat×Nat} {N:Array Field}
  (J:j.getD p undef=qP g) (M:w.heap[g]?=some (.cells cs t C))
  (H:P.underlying z=some (.struct N)) (I:(P.info? z).map (·.size)=some cs.size) :
  (results F j).run P w = .ok (.tuple #[j.getD u undef,.agg cs]) w:=by
 have A:j[p]?.getD undef=qP g:=by simpa using J
 simp [results,h,A,asAddr,run_loadVar_row w g t z cs C _ M H rfl I]
theorem Ik:(prog.info? 47).map (·.size)=some 4:=by kernel_rfl
theorem gY:(prog.info? 121).map (fun i=>(i.zero,i.size,i.bytes))=some (some (.agg #[iP 0,.string { data:=#[] },iP 0,iP 0]),4,40):=by kernel_rfl
theorem zdc (S:bA) (hS:65536<S.size) (Df:S.size<=140737488351232) (w:wD) :
  Calls prog 64 #[.string S] w (LexPost w (.bad 2 1 1)):=by
 go_enter func64,ntmps64
 go_wp2
 refine bodyPost_ret (results_tmp_cell rfl _ rfl (xL w _) underlying47 Ik) rfl ?_
 exact⟨(Below.refl _ w).alloc (xR) _,rfl⟩
def Jo (w:wD) (b:Nat) (li co e:Int):Prop:=w.heap[b]?=some (.cells #[iP 0,iP li,iP co,iP e] 47 (0,0))
section
variable {w : wD} {b : Nat} {li co e : Int}
theorem Jo.c (h:Jo w b li co e) (o:Nat) (j:o<4):w.cell? (aP b o)=some (([iP 0,iP li,iP co,iP e]:List vL).getD o undef):=by
 unfold Jo at h
 match o,j with
 | 0,_=>simp [World.cell?,h]
 | 1,_=>simp [World.cell?,h]
 | 2,_=>simp [World.cell?,h]
 | 3,_=>simp [World.cell?,h]
theorem Jo.fz (h:Jo w b li co e) (o:Nat):w.frozen? (aP b o)=false:=by unfold Jo at h; simp [World.frozen?,h]
theorem Jo.set (h:Jo w b li co e) (z j e':Int):Jo ((((w.setCell (aP b 0) (iP 0)).setCell (aP b 1) (iP z)).setCell (aP b 2) (iP j)).setCell (aP b 3) (iP e')) b z j e' :=
 Y1 (Y1 (Y1 (Y1 h)))
end
theorem Rp {a w:wD} {b:Nat} (h:Below b a w) (x y z u:vL):Below b a ((((w.setCell (aP b 0) x).setCell (aP b 1) y).setCell (aP b 2) z).setCell (aP b 3) u) :=
 (((h.setCell (xR) _).setCell (xR) _).setCell (xR) _).setCell (xR) _
structure Gr (w wr:wD) (D:DataW Unit) (sb:Nat) (v:vL) (acc:List Tok):Prop where
 mp:wr.ownsMap prog 166 unitElem (w.heap.size+1) 8 D
 dg:Jo wr w.heap.size 0 0 0
 bl:Below w.heap.size w wr
 wd:Words wr
 ow:wr.ownsRow (sb+1) 121 4 v acc.length (tokCells acc)
 sbl:w.heap.size+2<=sb
 sz:sb<wr.heap.size
 w0:0<w.heap.size
theorem Ef {w:wD} {B e z n:Nat} {v:vL} {xs:List vL} (h:w.ownsRow B e z v n xs):∀ j,v.ownBlock=some j->B<=j/\j<w.heap.size:=by
 intro j A
 rcases h.2 with⟨C,H⟩ | ⟨g,cap,cur,C,H,F,_⟩
 ·rw [C] at A; cases A
 ·rw [C] at A
  simp [Value.ownBlock] at A;have:=xB F;omega
section
variable {w wr wr' : wD} {D : DataW Unit} {sb : Nat} {v : vL} {acc : List Tok}
theorem Gr.upd (h:Gr w wr D sb v acc) {tb:Nat} (j:Wt wr wr' sb tb) (ht:sb+1<=tb) (hv:v.ownBlock≠some tb):Gr w wr' D sb v acc where
 mp:=j.map h.mp (by have:=h.sbl; omega) (by have:=h.sbl; omega)
 dg:=by
  have:=h.sbl;have:=h.sz;unfold Jo;rw [j.block _ (by omega) (by omega) (by omega)];exact h.dg
 bl:=h.bl.trans (j.below h.bl.size (by have:=h.sbl; omega) (by have:=h.sbl; omega))
 wd:=j.words h.wd (by have:=h.sbl; have:=h.w0; omega) (by have:=h.sbl; have:=h.w0; omega)
 ow:=j.owns h.ow (fun e=>by have:=(Ef h.ow _ e).1; omega) hv
 sbl:=h.sbl
 sz:=xT h.sz j.size
 w0:=h.w0
theorem Gr.none (h:Gr w wr D sb v acc) (j:wr.grownBy wr' none):Gr w wr' D sb v acc :=
 h.upd (tb:=wr.heap.size) (Wt.ofNone j sb _) h.sz (fun e=>by have:=(Ef h.ow _ e).2; omega)
theorem Gr.skip (h:Gr w wr D sb v acc) (j:wr.grownBy wr' (some sb)):Gr w wr' D sb v acc :=
 h.upd (tb:=wr.heap.size) (Wt.ofL j _) h.sz (fun e=>by have:=(Ef h.ow _ e).2; omega)
theorem Gr.app (h:Gr w wr D sb v acc) {N:Obj} {v':vL} {w1:wD} {t:Tok} (M:w1.ownsRow (sb+1) 121 4 v' (acc.length+1) (tokCells acc ++ Tok.cells t)) (H:(wr.alloc N).grownBy w1 v.ownBlock):Gr w w1 D sb v' (acc ++ [t]) /\
  ∀ i,i<wr.heap.size->i<=sb->w1.heap[i]?=wr.heap[i]?:=by
 have C:∀ i,i<wr.heap.size->i<=sb->w1.heap[i]?=wr.heap[i]?:=fun i I Px=>by
  rw [H.block i (by simp; omega) (fun e=>by have:=(Ef h.ow _ e.symm).1; omega),xA I]
 have hsz:=h.sz
 have A:=h.sbl
 have F:=h.w0
 refine⟨⟨?_,?_,?_,?_,?_,A,?_,F⟩,C⟩
 ·obtain⟨es,z,J,r⟩:=h.mp
  exact⟨es,z,by rw [C _ (xB J) (by omega)]; exact J,r⟩
 ·unfold Jo
  rw [C _ (by omega) (by omega)];exact h.dg
 ·refine(h.bl.alloc h.bl.size _).grown H (by have:=h.bl.size; simp; omega) fun j O=>?_
  have:=(Ef h.ow _ O).1;omega
 ·intro i I
  rw [World.cell?_of_block (w:=wr) (C 0 (by omega) (by omega))];exact h.wd i I
 ·rw [List.length_append,eA]
  exact M
 ·have:=H.size
  simp at this;omega
end
theorem pY (W:wD) (t:Tok) (h:TypeId):∀ j u,(Tok.cells t)[j]?=some u->(W.alloc (.cells #[iP t.kind,uP t.text,iP t.line,iP t.col] h)).cell? ((aP W.heap.size 0).add j)=some u:=by
 intro j u A
 have z:(aP W.heap.size 0).add j=(aP W.heap.size j):=by unfold Addr.add; split <;> simp_all
 rw [z,cell_of_row _ _ j _ h (0,0) (xL W _)]
 simpa [Tok.cells] using A
theorem pZ (t:Tok):∀ u ∈ Tok.cells t,u.oneCell'=true:=by
 intro u h
 simp [Tok.cells] at h
 rcases h with rfl | rfl | rfl | rfl <;> rfl
theorem dZ {w:wD} {B B' e z n:Nat} {v:vL} {xs:List vL} (h:w.ownsRow B e z v n xs) (hB:B'<=B):w.ownsRow B' e z v n xs:=by
 obtain⟨F,A⟩:=h
 refine⟨F,?_⟩
 rcases A with A | ⟨g,cap,j,rfl,hg,C,r⟩
 ·exact .inl A
 ·exact .inr ⟨g,cap,j,rfl,by omega,C,r⟩
theorem zdd (S:bA) (hS:S.size<=65536) (w:wD) (hw:Words w) :
  Calls prog 64 #[.string S] w (LexPost w (Pz S.data.toList)):=by
 obtain⟨R,hR⟩:=xE (Pz S.data.toList)
 rw [<- hR]
 have HR:=Za hR
 have HW:=Za hw
 clear hR hw
 go_enter func64,ntmps64
 go_wp2_with fail
 refine(zjw _).mono ?_
 rintro e w1 ⟨rfl,D,Wh,hD,hb⟩
 have HD:=Za hD
 have hsz:=Wh.lt
 simp only [xS] at Wh hsz hb
 have vU:xQ (Gr w (w1.alloc (.cells #[.string S,iP 0,iP 1,iP 0,.map (some (w.heap.size+1))] 145)) D w1.heap.size nP []):=by
  have Zs:Below w.heap.size w w1:=(((Below.refl _ w).alloc (xR) _).trans (hb.mono (Nat.le_succ _)))
  refine⟨Wh.alloc _,?_,Zs.alloc Zs.size _,?_,World.ownsRow_nil _ _ _ _,by omega,by simp,HW.o.lt⟩
  ·unfold Jo
   rw [xA (by omega),hb.block w.heap.size (xU _)];exact xL w _
  ·exact HW.o.below (Zs.alloc Zs.size _)
 clear hD Wh hb
 go_wp2_with fail
 refine(aZ S hS w1.heap.size (w.heap.size+1) 0 1 0 (by omega) (by omega) (by omega) _ (xL w1 _)).mono ?_
 rintro e w2 ⟨rfl,k0,li0,ls0,J,hg,_,hk,H,Ge,I⟩
 have Qd:=Za (vU.o.skip hg)
 have Z:=Za (fN (l:=S.data.toList) (by rw [Wz]; exact hS) I)
 have Wj:=Za J
 have h0l:([]:List Tok).length<=8192:=by simp
 rw [<- HR.o] at Z
 clear vU hg I J
 obtain⟨i0,hi,Xr,Xg,Xw⟩:=info_parts gY
 obtain⟨sb,Wx⟩:=xE w1.heap.size
 rw [<- Wx] at Qd Wj ⊢
 clear Wx hsz
 go_wp2
 go_loopw [5] (fun v wr=>∃ (k li ls:Nat) (acc:List Tok),xQ (Gr w wr D sb v acc)/\xQ (Xi wr sb S k li ls (w.heap.size+1))/\k<=S.size/\ls<=k/\li<=k+1/\acc.length<=8192/\xQ (Sl R (S.data.toList.drop k) li (k - ls+1) acc)) (fun _ wr=>S.size - tV wr sb)
 case atStart=>exact⟨k0,li0,ls0,[],Qd,Wj,hk,H,Ge,h0l,Z⟩
 case round =>
  clear Qd Wj Z hk H Ge;obtain⟨k,li,ls,acc,N,J,hk,H,Ge,Bf,Z⟩:=hrel;obtain⟨a,cap,rfl⟩:=bB N.o.ow;have c1:=J.o.c1;have hat1:=Za (Xi.at J.o);by_cases Zt:k<S.size
  ·have Z1:S.data.toList.drop k≠[]:=by
    rw [Ue S k Zt]; simp
   have F0:=Za Z1;clear Z1;go_wp2_with fail;refine(gH S sb (w.heap.size+1) k li ls (by omega) H _ J.o).mono ?_;rintro e wa ⟨rfl,Y⟩;have C:=Za (N.o.none (Y.trans (World.grownBy_alloc wa (.cells #[iP 0,.string ByteArray.empty,iP li,iP ((k - ls+1:Nat):Int)] 121) _)));have F:=Za (J.o.kept (Y.trans (World.grownBy_alloc wa (.cells #[iP 0,.string ByteArray.empty,iP li,iP ((k - ls+1:Nat):Int)] 121) _)) (by simp))
   have hszw:sb<wa.heap.size:=xT N.o.sz Y.size
   have hvn:xQ ((Value.slice a acc.length cap).ownBlock≠some wa.heap.size):=fun e=>by
    have:=(Ef N.o.ow _ e).2;have:=Y.size;omega
   have hsbl:=N.o.sbl;have hw0:=N.o.w0;clear Y c1 N J;unfold tokA;go_wp2_with fail;refine(bJ S hS sb (w.heap.size+1) k li ls Zt wa.heap.size 0 ByteArray.empty li ((k - ls+1:Nat):Int) (by omega) _ F.o (xL wa _) C.o.wd (by omega) (by omega) D C.o.mp HD.o (by omega)).mono ?_;intro e wc O;have HP:=Za O;clear O
   cases Xv:U1 (S.data.toList.drop k)with
   | inl x =>
    have O:=HP.o;rw [Xv] at O;obtain⟨rfl,hx,⟨kd,tx,M⟩,hu⟩:=O;have Ru:=fK Z.o F0.o Xv;have h:=C.o.upd hu (by omega) hvn.o;have t2:=M.c2;have t3:=M.c3;have Tk:=Za h.dg;have Yo:=Za h.bl;have g0:=h.dg.c 0 (by omega);have g1:=h.dg.c 1 (by omega);have g2:=h.dg.c 2 (by omega);have g3:=h.dg.c 3 (by omega);simp only [List.getD_cons_zero,List.getD_cons_succ] at g0 g1 g2 g3
    have z0:=h.dg.fz 0;have z1:=h.dg.fz 1;have z2:=h.dg.fz 2;have z3:=h.dg.fz 3
    have x0:(x == 0)=false:=by simpa using hx
    subst Ru;clear Xv HP hu h C F M;go_wp2;go_region
    all_goals
     go_wp2;refine bodyPost_ret (results_tmp_cell rfl _ rfl (Tk.o.set _ _ _) underlying47 Ik) rfl ?_;exact⟨(Rp Yo.o _ _ _ _).drew,rfl⟩
   | inr q =>
    obtain⟨kd,t,rest⟩:=q;have O:=HP.o;rw [Xv] at O;obtain⟨rfl,m,hkm,Dk,A5,A,M,hu⟩:=O;have h:=Za (C.o.upd hu (by omega) hvn.o);have A:=Za A;have Qu:=Za Xv;have Ot:=Za A5;have t0:=M.c0;have t1:=M.c1;have t2:=M.c2;have t3:=M.c3;clear Xv HP hu C F M A5;by_cases zH:acc.length=8192
    ·have Kk:((acc.length:Int) == 8192)=true:=by simp; omega
     have Ru:=fM Z.o F0.o Qu.o zH;have Tk:=Za h.o.dg;have Yo:=Za h.o.bl;have g0:=h.o.dg.c 0 (by omega);have g1:=h.o.dg.c 1 (by omega);have g2:=h.o.dg.c 2 (by omega);have g3:=h.o.dg.c 3 (by omega);simp only [List.getD_cons_zero,List.getD_cons_succ] at g0 g1 g2 g3;have z0:=h.o.dg.fz 0;have z1:=h.o.dg.fz 1;have z2:=h.o.dg.fz 2;have z3:=h.o.dg.fz 3;subst Ru;go_wp2;go_region
     all_goals
      go_wp2;refine bodyPost_ret (results_tmp_cell rfl _ rfl (Tk.o.set _ _ _) underlying47 Ik) rfl ?_;exact⟨(Rp Yo.o _ _ _ _).drew,rfl⟩
    ·have Kk:((acc.length:Int) == 8192)=false:=by simp; omega
     go_wp2_with(at_builtin; refine wpList_append_own _ rfl (.tmp 39) (.tmp 41) 115 rfl (sb+1) 121 i0 _ 4 40 underlying115 hi Xr Xg Xw rfl (by decide) _ _ _ rfl (h.o.ow.alloc _) (aP _ 0) 1 1 (Tok.cells ⟨kd,t,li,k - ls+1⟩) rfl rfl (pY _ ⟨kd,t,li,k - ls+1⟩ 121) (pZ _) (by unfold maxLen; omega) (by omega) (by have:=h.o.sz; simp; omega) ?_)
     intro v' w3 Zr Zo _;obtain⟨j,Rv⟩:=h.o.app Zr Zo
     have V:Xi w3 sb S m li ls (w.heap.size+1):=by
      unfold Xi;rw [Rv sb h.o.sz (xR)];exact A.o
     have HCO3:=Za j;have HSC3:=Za V;clear Zr Zo j Rv V t0 t1 t2 t3 h A;go_wp2_with fail;refine(aZ S hS sb (w.heap.size+1) m li ls Dk (by omega) (by omega) _ HSC3.o).mono ?_;rintro e w4 ⟨rfl,k4,li4,ls4,hs4,hg4,hm4,Jc,hls4,hli4,z⟩;have HCO4:=Za (HCO3.o.skip hg4)
     have HAT4:xQ (Sl R (S.data.toList.drop k4) li4 (k4 - ls4+1) (acc ++ [⟨kd,t,li,k - ls+1⟩])):=by
      refine fO Z.o F0.o Qu.o zH ?_;rw [Ot.o,List.length_drop,List.length_drop,Wz];rw [show k - ls+1+(S.size - k - (S.size - m))=m - ls+1 from by omega];exact z
     have Wm:=Za hs4;clear hg4 hs4 z;go_wp2;refine⟨⟨k4,li4,ls4,acc ++ [⟨kd,t,li,k - ls+1⟩],HCO4,Wm,Jc,hls4,hli4,by simp; omega,HAT4⟩,?_⟩;have e1:=hat1.o;have e2:=Wm.o.at;rw [e1,e2];omega
  ·have T:S.data.toList.drop k=[]:=List.drop_eq_nil_of_le (by rw [Wz]; omega)
   have Ly:=Z.o;rw [T] at Ly;have HEND:=Za (fL Ly);clear T Ly;go_wp2_with fail;refine(gH S sb (w.heap.size+1) k li ls (by omega) H _ J.o).mono ?_;rintro e wa ⟨rfl,Y⟩;have C:=Za (N.o.none Y);clear Y c1 N J;unfold tokA
   go_wp2_with(at_builtin; refine wpList_append_own _ rfl (.tmp 43) (.tmp 45) 115 rfl (sb+1) 121 i0 _ 4 40 underlying115 hi Xr Xg Xw rfl (by decide) _ _ _ rfl (C.o.ow.alloc _) (aP _ 0) 1 1 (Tok.cells ⟨0,[],li,k - ls+1⟩) rfl rfl (pY _ ⟨0,[],li,k - ls+1⟩ 121) (pZ _) (by unfold maxLen; omega) (by omega) (by have:=C.o.sz; simp; omega) ?_)
   intro v' w3 Zr Zo _;obtain⟨j,Rv⟩:=C.o.app (t:=⟨0,[],li,k - ls+1⟩) Zr Zo;have Tk:=Za j.dg;have Yo:=Za j.bl;have hsbl:=j.sbl
   obtain⟨g,cap',rfl⟩:∃ g cap',v'=lP g (acc.length+1) cap':=by
    rcases Zr.2 with⟨_,h0⟩ | ⟨g,cap',cur,h1,_⟩
    ·omega
    ·exact⟨g,cap',h1⟩
   have hgb:=(Ef Zr g rfl).1;have how:=Za j.ow;have g0:=j.dg.c 0 (by omega);have g1:=j.dg.c 1 (by omega);have g2:=j.dg.c 2 (by omega);have g3:=j.dg.c 3 (by omega);simp only [List.getD_cons_zero,List.getD_cons_succ] at g0 g1 g2 g3;have z0:=j.dg.fz 0;have z1:=j.dg.fz 1;have z2:=j.dg.fz 2;have z3:=j.dg.fz 3;clear Zr Zo j Rv C;go_wp2;refine bodyPost_ret (results_tmp_cell rfl _ rfl (Tk.o.set _ _ _) underlying47 Ik) rfl ?_
   rw [HEND.o];refine⟨Rp Yo.o _ _ _ _,g,cap',?_,?_⟩
   ·simp [diagA]
   ·have ho:=dZ how.o (show w.heap.size<=sb+1 by omega)
    rw [List.length_append] at ho ⊢
    have Z1:∀ o,(lP g (acc.length+1) cap').ownBlock≠some (aP w.heap.size o).block:=fun o e=>by
     simp [Value.ownBlock] at e;omega
    exact ownsRow_setCell_other (ownsRow_setCell_other (ownsRow_setCell_other (ownsRow_setCell_other ho (Z1 0) _) (Z1 1) _) (Z1 2) _) (Z1 3) _
theorem lex_c (S:bA) (z:S.size<=140737488351232) (w:wD) (j:Words w):Calls prog 64 #[.string S] w (LexPost w (Pz S.data.toList)):=by
 by_cases h:S.size<=65536
 ·exact zdd S h w j
 ·rw [Pz,if_pos (by rw [Wz]; omega)]
  exact zdc S (by omega) z w
end Lx
section
open Go.RowKit
def tU {α:Type} (w:wD) (z:vL) (rep:Nat->wD->vL->α->Prop) (R:α⊕(Int×Nat×Nat)) (e:Ending) (w':wD):Prop :=
 Below w.heap.size w w'/\match R with
 | .inl x=>∃ v,e = .returned (.tuple #[v,Da 0 0 0])/\rep w.heap.size w' v x
 | .inr (er,li,co)=>e = .returned (.tuple #[z,Da li co er])
theorem eC {w:wD} {B e g cap:Nat} {ts:List Tok} (h:w.ownsRow B e 4 (lP g ts.length cap) ts.length (Lx.tokCells ts)):Ie w g ts:=fun i z=>by
 have A:∀ j,j<4->w.cell? (aP g (i*4+j))=(Lx.Tok.cells (Zk ts i))[j]?:=fun j hj=>by
  rw [h.cellAt (i*4+j) (by omega)]
  have C:∀ (ts:List Tok) (i:Nat) (z:i<ts.length),(Lx.tokCells ts)[i*4+j]?=(Lx.Tok.cells ts[i])[j]?:=by
   intro ts
   induction ts with
   | nil=>intro i z; cases z
   | cons t r ih =>
    intro i z
    cases i with
    | zero =>
     rw [Lx.tokCells,List.flatMap_cons,List.getElem?_append_left (by simp [Lx.Tok.cells]; omega)];simp
    | succ i =>
     rw [Lx.tokCells,List.flatMap_cons,List.getElem?_append_right (by simp [Lx.Tok.cells]; omega)];have:=ih i (by simpa using z);rw [Lx.tokCells] at this;simp only [List.getElem_cons_succ];rw [<- this]
     congr 1
     simp [Lx.Tok.cells];omega
  rw [C ts i z];unfold Zk;rw [List.getD_eq_getElem?_getD,List.getElem?_eq_getElem z];rfl
 exact⟨A 0 (by omega),A 1 (by omega),A 2 (by omega),A 3 (by omega)⟩
def E8 {α:Type} (r:Pr α):α⊕(Int×Nat×Nat):=match r with
 | .inl (t,_) => .inl t
 | .inr e => .inr e
theorem Og {N:Func} {p q:Tmp} {F z:TypeId} (h:N.results=#[.cell p F,.cell q z]) (j:Array vL) {P:Program} {w:wD} {g C:Nat} {t M:TypeId} {cs A:Array vL} {V I:Array Field}
  (Z:j.getD p undef=qP g) (hg:w.heap[g]?=some (.cells cs t)) (O:P.underlying F=some (.struct V)) (hi:(P.info? F).map (·.size)=some cs.size)
  (J:j.getD q undef=qP C) (Qp:w.heap[C]?=some (.cells A M)) (H:P.underlying z=some (.struct I)) (Y:(P.info? z).map (·.size)=some A.size) :
  (results N j).run P w = .ok (.tuple #[.agg cs,.agg A]) w:=by
 have e1:j[p]?.getD undef=qP g:=by simpa using Z
 have T:j[q]?.getD undef=qP C:=by simpa using J
 simp [results,h,e1,T,asAddr,run_loadVar_row w g t F cs (0,0) _ hg O rfl hi,run_loadVar_row w C M z A (0,0) _ Qp H rfl Y]
theorem sZ {M:Func} {p q:Tmp} {H z:TypeId} (h:M.results=#[.cell p H,.cell q z]) (j:Array vL) {P:Program} {w:wD} {g J:Nat} {t t':TypeId} {cs A:Array vL} {O F:Array Field}
  (V:j.getD p undef=qP g) (Y:w.heap[g]?=some (.cells cs t)) (N:P.underlying H=some (.struct O)) (hi:(P.info? H).map (·.size)=some cs.size)
  (I:j.getD q undef=qP J) (Z:w.heap[J]?=some (.cells A t')) (C:P.underlying z=some (.struct F)) (T:(P.info? z).map (·.size)=some A.size) :
  (results M j).run P w.drew = .ok (.tuple #[.agg cs,.agg A]) w.drew:=Og h j V (by rw [Iq]; exact Y) N hi I (by rw [Iq]; exact Z) C T
end
end Go.Proofs.YtoppemkjhhlegaaGreatDoor
