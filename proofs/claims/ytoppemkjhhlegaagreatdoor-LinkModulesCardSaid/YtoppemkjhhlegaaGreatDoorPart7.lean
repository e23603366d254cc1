/- Part. -/
import Derived.Test.YtoppemkjhhlegaaGreatDoorPart6
set_option maxRecDepth 100000
set_option maxHeartbeats 4000000
namespace Go.Proofs.YtoppemkjhhlegaaGreatDoor
open Go.Proofs.Tryz
open Go.RowKit
namespace Lx
theorem parse_c (s:bA) (hs:s.size<=9223372036854775807) (w:World):Calls prog 101 #[.string s] w fun e w'=>e = .returned (Cp (Ns s.data.toList))/\w'=w:=by
 by_cases F:s.size=0
 ·have J:s.toList.isEmpty=true:=by rw [pV]; simp [F]
  rw [sB F];go_enter func101,h;go_wp2
  go_ret2
  exact⟨rfl,rfl⟩
 have I:0<s.size:=by omega
 have J:s.toList.isEmpty=false:=by rw [pV]; simp [F]
 by_cases j:(s[0].toNat:Int)=48/\1<s.size
 ·rw [sC I j.1 j.2]
  obtain⟨N5,Kl⟩:=j;go_enter func101,h;go_wp2
  go_ret2
  exact⟨rfl,rfl⟩
 rw [bC I j]
 have H:((s[0].toNat:Int)=48/\s.size<=1)∨¬ (s[0].toNat:Int)=48:=by omega
 clear j F
 rcases H with⟨H,Tj⟩ | H
 all_goals
  go_enter func101,h;go_wp2
  go_loop [4,21] (fun n i=>∃ (k:Nat) (m:Int),k<=s.size/\i=iP k/\n=iP m/\0<=m/\m<=9223372036854775807/\Lc s.data.toList 0=Lc (s.data.toList.drop k) m) (fun _ i=>s.size - (intOf i).toNat)
  case atStart=>exact⟨0,0,xZ _,rfl,rfl,by omega,by omega,rfl⟩
  case round =>
   obtain⟨k,m,hk,rfl,rfl,hm0,Kk,z⟩:=hrel;have A:xQ (Lc s.data.toList 0=Lc (s.data.toList.drop k) m):=z;clear z;by_cases C:k<s.size
   ·by_cases b1:(s[k].toNat:Int)<48
    ·go_wp2
     go_ret2
     rw [A.o,dZ C m (Or.inl b1)];exact⟨rfl,rfl⟩
    by_cases b2:57<(s[k].toNat:Int)
    ·go_wp2
     go_ret2
     rw [A.o,dZ C m (Or.inr b2)];exact⟨rfl,rfl⟩
    by_cases b3:(9223372036854775807 - ((s[k].toNat:Int) - 48)) / 10<m
    ·go_wp2
     go_ret2
     rw [A.o,zff C m (by omega) b3];exact⟨rfl,rfl⟩
    ·go_wp2
     go_round
     case rel=>exact⟨k+1,m*10+((s[k].toNat:Int) - 48),by omega,by go_num,rfl,by omega,by omega,A.o.trans (zfe C m (by omega) b3)⟩
     case measure=>simp [intOf]; omega
   ·go_wp2
    go_ret2
    rw [A.o,zfd C m];exact⟨rfl,rfl⟩
end Lx
section
attribute [local go_sem ↓] Go.wp_at_zero Go.wp_at_succ
theorem ziw (pb tb cap d:Nat) (ts:List Tok)  (J:Ym ts) (a:Nat) (T:(Zk ts a).kind=3) (w:World) (h:Ps w pb tb cap ts a d) :
  Calls prog 148 #[qP pb] w (Ya pb tb cap ts d w Z6 (.inl (Zp 0 [] ((Ns (Zk ts a).text).getD 0) (Zk ts a).line (Zk ts a).col [] [] [],a+1))):=by
 have H:=Za h
 have OK:=Za J
 have M:=h.ltp
 have HN:=Za (J.ends a h.lt (by rw [T]; decide))
 have B2:=Za (fun w h=>Jj pb tb cap a d ts w h HN.o J.len)
 have Tq:=Za (fun w h=>J7 pb tb cap a d ts w h)
 have Gz:=Za (J.txt a)
 obtain⟨t,ht⟩:=xE (Zk ts a)
 rw [<- ht] at Tq B2 Gz T ⊢
 clear ht
 obtain⟨kd,j,z,A⟩:=t
 obtain rfl:kd=3:=T
 have C0:=Za (U2 h Zj.obj)
 obtain⟨R,Y⟩:∃ R:Pr Ty,R=(.inl (Zp 0 [] ((Ns j).getD 0) z A [] [] [],a+1)):=⟨_,rfl⟩
 rw [<- Y]
 have V:=Za Y
 clear h J Y
 go_enter func148,ntmps148
 go_wp2_with fail
 refine(Tq.o _ C0.o.ps).mono ?_
 rintro e w1 ⟨rfl,F⟩
 have C1:=Za (C0.o.below F)
 have C2:=Za (C1.o.alloc (Z3 ⟨3,j,z,A⟩))
 clear F
 go_wp2_with fail
 refine(B2.o _ C2.o.ps).mono ?_
 rintro e w2 ⟨rfl,Zb,Zc⟩
 have O:=Za (C2.o.step Zb Zc)
 clear Zb Zc
 obtain⟨⟨k0,k1,k2,k3⟩,_,N4⟩:=Yh O.o.b0
 have Qt:=Za (fun w=>Lx.parse_c ⟨j.toArray⟩ (by have:=Gz.o; show j.toArray.size<=_; simp at this ⊢; omega) w)
 go_wp2_with fail
 refine(Qt.o _).mono ?_
 rintro e w3 ⟨rfl,rfl⟩
 obtain⟨pv,I⟩:=xE (Ns j)
 rw [<- I]
 rw [<- I] at V
 clear I
 cases pv with
 | none =>
  have Z:xQ (R = .inl (Zp 0 [] 0 z A [] [] [],a+1)):=V.o;simp only [Cp,Option.getD_none,Option.isSome_none];go_wp2_with fail;refine(L7 ⟨3,j,z,A⟩ ⟨0,⟨#[]⟩,0,0,0,none,0,0,none,0,0,none,0,0⟩ _).mono ?_;rintro e w4 ⟨rfl,F⟩;have C:=Za (O.o.below F);clear F;obtain⟨⟨r0,r1,r2,r3,r4,r5,r6,r7⟩,⟨f0,f1,f2,f3,f4,f5,f6,f7⟩,Yw⟩:=Zn (x:=Zj) (C.o.b1);go_wp2_with fail
  rw [Z.o];refine r64 rfl rfl (Wv (x:=Va 0 [] 0 ⟨3,j,z,A⟩) C.o.b1) rfl ⟨Wy C.o.st M (xR) (Va 0 [] 0 ⟨3,j,z,A⟩),Ve C.o.ps M (Va 0 [] 0 ⟨3,j,z,A⟩),_,rfl,Va 0 [] 0 ⟨3,j,z,A⟩,rfl,?_⟩;exact((Iz _ _ 0 [] 0 ⟨3,j,z,A⟩).put8 (xU _) (Va 0 [] 0 ⟨3,j,z,A⟩)).lower (Nat.le_succ _)
 | some N =>
  have Z:xQ (R = .inl (Zp 0 [] N z A [] [] [],a+1)):=V.o;simp only [Cp,Option.getD_some,Option.isSome_some];go_wp2_with fail;refine(L7 ⟨3,j,z,A⟩ ⟨0,⟨#[]⟩,N,0,0,none,0,0,none,0,0,none,0,0⟩ _).mono ?_;rintro e w4 ⟨rfl,F⟩;have C:=Za (O.o.below F);clear F;obtain⟨⟨r0,r1,r2,r3,r4,r5,r6,r7⟩,⟨f0,f1,f2,f3,f4,f5,f6,f7⟩,Yw⟩:=Zn (x:=Zj) (C.o.b1);go_wp2_with fail
  rw [Z.o];refine r64 rfl rfl (Wv (x:=Va 0 [] N ⟨3,j,z,A⟩) C.o.b1) rfl ⟨Wy C.o.st M (xR) (Va 0 [] N ⟨3,j,z,A⟩),Ve C.o.ps M (Va 0 [] N ⟨3,j,z,A⟩),_,rfl,Va 0 [] N ⟨3,j,z,A⟩,rfl,?_⟩;exact((Iz _ _ 0 [] N ⟨3,j,z,A⟩).put8 (xU _) (Va 0 [] N ⟨3,j,z,A⟩)).lower (Nat.le_succ _)
theorem zix (pb tb cap d:Nat) (ts:List Tok)  (F:Ym ts) (a:Nat) (J:(Zk ts a).kind=4) (w:World) (h:Ps w pb tb cap ts a d) :
  Calls prog 148 #[qP pb] w (Ya pb tb cap ts d w Z6 (.inl (Zp 1 (Zk ts a).text 0 (Zk ts a).line (Zk ts a).col [] [] [],a+1))):=by
 have H:=Za h
 have OK:=Za F
 have O:=h.ltp
 have HN:=Za (F.ends a h.lt (by rw [J]; decide))
 have B2:=Za (fun w h=>Jj pb tb cap a d ts w h HN.o F.len)
 have T:=Za (fun w h=>J7 pb tb cap a d ts w h)
 have Gz:=Za (F.txt a)
 obtain⟨t,Z⟩:=xE (Zk ts a)
 rw [<- Z] at T B2 Gz J ⊢
 clear Z
 obtain⟨kd,j,z,A⟩:=t
 obtain rfl:kd=4:=J
 have C0:=Za (U2 h Zj.obj)
 obtain⟨R,M⟩:∃ R:Pr Ty,R=(.inl (Zp 1 j 0 z A [] [] [],a+1)):=⟨_,rfl⟩
 rw [<- M]
 have Yc:=Za M
 clear h F M
 go_enter func148,ntmps148
 go_wp2_with fail
 refine(T.o _ C0.o.ps).mono ?_
 rintro e w1 ⟨rfl,C⟩
 have C1:=Za (C0.o.below C)
 have Y:=Za (C1.o.alloc (Z3 ⟨4,j,z,A⟩))
 clear C
 go_wp2_with fail
 refine(B2.o _ Y.o.ps).mono ?_
 rintro e w2 ⟨rfl,V,Zc⟩
 have N:=Za (Y.o.step V Zc)
 clear V Zc
 obtain⟨⟨k0,k1,k2,k3⟩,_,N4⟩:=Yh N.o.b0
 go_wp2_with fail
 refine(L7 ⟨4,j,z,A⟩ ⟨1,⟨j.toArray⟩,0,0,0,none,0,0,none,0,0,none,0,0⟩ _).mono ?_
 rintro e w3 ⟨rfl,C⟩
 have I:=Za (N.o.below C)
 clear C
 obtain⟨⟨r0,r1,r2,r3,r4,r5,r6,r7⟩,⟨f0,f1,f2,f3,f4,f5,f6,f7⟩,Yw⟩:=Zn (x:=Zj) (I.o.b1)
 go_wp2_with fail
 rw [Yc.o]
 refine r64 rfl rfl (Wv (x:=Va 1 j 0 ⟨4,j,z,A⟩) I.o.b1) rfl ⟨Wy I.o.st O (xR) (Va 1 j 0 ⟨4,j,z,A⟩),Ve I.o.ps O (Va 1 j 0 ⟨4,j,z,A⟩),_,rfl,Va 1 j 0 ⟨4,j,z,A⟩,rfl,?_⟩
 exact((Iz _ _ 1 j 0 ⟨4,j,z,A⟩).put8 (xU _) (Va 1 j 0 ⟨4,j,z,A⟩)).lower (Nat.le_succ _)
theorem ziv (pb tb cap d:Nat) (ts:List Tok) (K:Nat->Pr Ty) (Z:Xs pb tb cap d ts Yk 106 K) (F:Ym ts) (a:Nat) (I:(Zk ts a).kind=1) (w:World) (h:Ps w pb tb cap ts a d) :
  Calls prog 148 #[qP pb] w (Ya pb tb cap ts d w Z6 ((zO ts K ts.length a).go fun x b => .inl (x,b))):=by
 have H:=Za h
 have OK:=Za F
 have N:=h.ltp
 have Na:=Za (fun w h=>zek pb tb cap d ts K Z F a (F.ends a h.lt (by rw [I]; decide)) w h)
 have O:=Za (fun w h=>J7 pb tb cap a d ts w h)
 obtain⟨t,V⟩:=xE (Zk ts a)
 rw [<- V] at O I
 clear V
 obtain⟨kd,tx,tl,tc⟩:=t
 obtain rfl:kd=1:=I
 have C0:=Za (U2 h Zj.obj)
 obtain⟨R,M⟩:∃ R:Pr Ty,R=((zO ts K ts.length a).go fun x b => .inl (x,b)):=⟨_,rfl⟩
 rw [<- M]
 have Y:=Za M
 clear h F M Z
 go_enter func148,ntmps148
 go_wp2_with fail
 refine(O.o _ C0.o.ps).mono ?_
 rintro e w1 ⟨rfl,T⟩
 have C1:=Za (C0.o.below T)
 have C:=Za (C1.o.alloc (Z3 ⟨1,tx,tl,tc⟩))
 clear T
 go_wp2_with fail
 refine(Na.o _ C.o.ps).mono ?_
 intro e w2 J
 rcases Yr J with⟨er,li,co,A,rfl,z⟩ | ⟨D,b,v,A,rfl,z,Zc,hv⟩
 ·have HE:xQ (R = .inr (er,li,co)):=by rw [Y.o,A]; exact rfl
  have HF:=Za (C.o.st.trans z);clear A z J;go_wp2_with fail;exact⟨rfl,HF.o,by rw [HE.o]⟩
 have Yl:xQ (R = .inl (D,b)):=by rw [Y.o,A]; exact rfl
 obtain⟨x,rfl,hv⟩:=hv
 have j:=Za ((C.o.step z Zc).addN hv C.o.sz)
 clear A z Zc J hv
 obtain⟨⟨r0,r1,r2,r3,r4,r5,r6,r7⟩,⟨f0,f1,f2,f3,f4,f5,f6,f7⟩,Yw⟩:=Zn (x:=Zj) (j.o.b1)
 go_wp2_with fail
 rw [Yl.o]
 refine r64 rfl rfl (Wv (x:=x) j.o.b1) rfl ⟨Wy j.o.st N (xR) (x),Ve j.o.ps N (x),_,rfl,x,rfl,?_⟩
 exact((j.o.n0).put8 (xU _) (x)).lower (Nat.le_succ _)
theorem zit (pb tb cap d:Nat) (ts:List Tok)  (Y:Ym ts) (a:Nat) (I:(Zk ts a).kind≠3) (F:(Zk ts a).kind≠4) (A:(Zk ts a).kind≠1) (w:World) (h:Ps w pb tb cap ts a d) :
  Calls prog 148 #[qP pb] w (Ya pb tb cap ts d w Z6 ((Vj ts 7 a:Pr Ty))):=by
 have H:=Za h
 have OK:=Za Y
 have hp:=h.ltp
 have O:=Za (fun wx (hx:Ps wx pb tb cap ts a d)=>yA pb tb cap a d ts wx hx 7)
 have N:=Za (fun w h=>J7 pb tb cap a d ts w h)
 unfold Vj
 obtain⟨t,V⟩:=xE (Zk ts a)
 rw [<- V] at N O I F A ⊢
 clear V
 obtain⟨z,tx,J,M⟩:=t
 have e3:(z == 3)=false:=by simpa using I
 have e4:(z == 4)=false:=by simpa using F
 have e1:(z == 1)=false:=by simpa using A
 clear I F A
 have Z:=Za (U2 h Zj.obj)
 obtain⟨R,C⟩:∃ R:Pr Ty,R=(.inr (7,J,M)):=⟨_,rfl⟩
 rw [<- C]
 have Yc:=Za C
 clear h Y C
 go_enter func148,ntmps148
 go_wp2_with fail
 refine(N.o _ Z.o.ps).mono ?_
 rintro e w1 ⟨rfl,j⟩
 have C1:=Za (Z.o.below j)
 have T:=Za (C1.o.alloc (Z3 ⟨z,tx,J,M⟩))
 clear j
 go_wp2_with fail
 refine(O.o _ T.o.ps).mono ?_
 rintro e w2 ⟨rfl,j⟩
 have C3:=Za (T.o.below j)
 clear j
 go_wp2_with fail
 exact⟨rfl,C3.o.st,by rw [Yc.o]⟩
def wL (ts:List Tok) (K:Nat->Pr Ty) (f a:Nat):Pr Ty :=
 if (Zk ts a).kind=3 then .inl (Zp 0 [] ((Ns (Zk ts a).text).getD 0) (Zk ts a).line (Zk ts a).col [] [] [],a+1)
 else if (Zk ts a).kind=4 then .inl (Zp 1 (Zk ts a).text 0 (Zk ts a).line (Zk ts a).col [] [] [],a+1)
 else if (Zk ts a).kind=1 then zO ts K f a else Vj ts 7 a
theorem ziu (pb tb cap d:Nat) (ts:List Tok) (K:Nat->Pr Ty) (F:Xs pb tb cap d ts Yk 106 K) (z:Ym ts) (a:Nat) (w:World) (h:Ps w pb tb cap ts a d) :
  Calls prog 148 #[qP pb] w (Ya pb tb cap ts d w Z6 (wL ts K ts.length a)):=by
 unfold wL
 by_cases C:(Zk ts a).kind=3
 ·rw [if_pos C]
  exact ziw pb tb cap d ts z a C w h
 ·rw [if_neg C]
  by_cases j:(Zk ts a).kind=4
  ·rw [if_pos j]
   exact zix pb tb cap d ts z a j w h
  ·rw [if_neg j]
   by_cases A:(Zk ts a).kind=1
   ·rw [if_pos A]
    have:=ziv pb tb cap d ts K F z a A w h
    cases hp:zO ts K ts.length a with
    | inl p=>rw [hp] at this; exact this
    | inr p=>rw [hp] at this; exact this
   ·rw [if_neg A]
    exact zit pb tb cap d ts z a C j A w h
abbrev wC (t:Tok) (kb:Nat):NV:=⟨17,⟨#[]⟩,0,t.line,t.col,none,0,0,none,0,0,some (aP kb 0),1,1⟩
def uG (t:Tok) (D:Ty):Ty:=match D with
 | .agg [k,tx,n,_,_,a,b,c] => .agg [k,tx,n,.lit (.int .i64 t.line),.lit (.int .i64 t.col),a,b,c]
 | D=>D
theorem zfj {lo:Nat} {w:World} {y:NV} {D:Ty} (h:Y0 lo w y D) (t:Tok):Y0 lo w { y with li:=t.line,co:=t.col } (uG t D):=by
 obtain⟨k,tx,N,l,c,tys,ns,ks,rfl,j⟩:=h.place t.line t.col
 exact j
abbrev Lr:List (bS):=[[116,114,117,101],[102,97,108,115,101],[110,117,108,108]]
theorem mL (pb tb cap d a:Nat) (ts:List Tok) (I:Pr Ty) (hc:∀ w,Ps w pb tb cap ts a d->Calls prog 146 #[qP pb] w (Ya pb tb cap ts d w Z6 I)) (ok:Ym ts) (T:(Lr.any fun s=>Zg ts a s)=true) (w:World) (h:Ps w pb tb cap ts a d) :
  Calls prog 144 #[qP pb] w (Ya pb tb cap ts d w Z6 (I.go fun x b => .inl (x,b))):=by
 have H:=Za h
 have OK:=Za ok
 have V:=h.ltp
 have HC:=Za (hc)
 have N:=Za T
 have Y:=Za (fun w h=>J7 pb tb cap a d ts w h)
 obtain⟨t,M⟩:=xE (Zk ts a)
 rw [<- M] at Y
 have M2:=Za M
 clear M
 have C0:=Za (U2 h Zj.obj)
 obtain⟨R,O⟩:∃ R:Pr Ty,R=(I.go fun x b => .inl (x,b)):=⟨_,rfl⟩
 rw [<- O]
 have Yc:=Za O
 clear h ok O hc T
 go_enter func144,ntmps144
 go_wp2_with fail
 refine(Y.o _ C0.o.ps).mono ?_
 rintro e w1 ⟨rfl,j⟩
 have C1:=Za (C0.o.below j)
 have Z:=Za (C1.o.alloc (Z3 t))
 clear j
 go_wp2_with fail
 refine(V5 pb tb cap a _ 3 ts Lr _ _ Z.o.ps.rd (by simp) (by simp)).mono ?_
 rw [N.o]
 rintro e w2 ⟨rfl,j⟩
 have F:=Za (Z.o.below j)
 clear j
 go_wp2_with fail
 refine(HC.o _ F.o.ps).mono ?_
 intro e w3 J
 rcases Yr J with⟨er,li,co,A,rfl,z⟩ | ⟨D,b,v,A,rfl,z,Zc,hv⟩
 ·have HE:xQ (R = .inr (er,li,co)):=by rw [Yc.o,A]; exact rfl
  have HF:=Za (F.o.st.trans z);clear A z J;go_wp2_with fail;exact⟨rfl,HF.o,by rw [HE.o]⟩
 have Yl:xQ (R = .inl (D,b)):=by rw [Yc.o,A]; exact rfl
 obtain⟨x,rfl,hv⟩:=hv
 have C:=Za ((F.o.step z Zc).addN hv F.o.sz)
 clear A z Zc J hv
 obtain⟨⟨I,r1,r2,r3,r4,r5,r6,r7⟩,⟨f0,f1,f2,f3,f4,f5,f6,f7⟩,Yw⟩:=Zn (x:=Zj) (C.o.b1)
 go_wp2_with fail
 rw [Yl.o]
 refine r64 rfl rfl (Wv (x:=x) C.o.b1) rfl ⟨Wy C.o.st V (xR) (x),Ve C.o.ps V (x),_,rfl,x,rfl,?_⟩
 exact((C.o.n0).put8 (xU _) (x)).lower (Nat.le_succ _)
theorem iU (pb tb cap d:Nat) (ts:List Tok) (E:Nat->Pr Ty) (hE:Xs pb tb cap d ts Z6 92 E) (ok:Ym ts) (a:Nat) (h3:(Lr.any fun s=>Zg ts a s)=false) (Mk:Zg ts a [112,114,105,110,116]=true) (w:World) (h:Ps w pb tb cap ts a d) :
  Calls prog 144 #[qP pb] w (Ya pb tb cap ts d w Z6 (((Ze ts (a+1) [40]).go fun _ b=>(E b).go fun x b=>(Ze ts b [41]).go fun _ b => .inl (x,b)).go fun x b => .inl (Zp 17 [] 0 (Zk ts a).line (Zk ts a).col [] [] [x],b))):=by
 have H:=Za h
 have OK:=Za ok
 have hp:=h.ltp
 have HI:=Za (fun w h=>m8 pb tb cap d ts E hE ok (a+1) w h)
 have Hh3:=Za h3
 have E0:=Za Mk
 have Tq:=Za (fun w h=>J7 pb tb cap a d ts w h)
 obtain⟨t,ht⟩:=xE (Zk ts a)
 rw [<- ht] at Tq
 have M2:=Za ht
 clear ht
 have C0:=Za (U2 h Zj.obj)
 obtain⟨R,Y⟩:∃ R:Pr Ty,R=(((Ze ts (a+1) [40]).go fun _ b=>(E b).go fun x b=>(Ze ts b [41]).go fun _ b => .inl (x,b)).go fun x b => .inl (Zp 17 [] 0 (Zk ts a).line (Zk ts a).col [] [] [x],b)):=⟨_,rfl⟩
 rw [<- Y]
 have V:=Za Y
 clear h ok Y hE h3 Mk
 go_enter func144,ntmps144
 go_wp2_with fail
 refine(Tq.o _ C0.o.ps).mono ?_
 rintro e w1 ⟨rfl,z⟩
 have C1:=Za (C0.o.below z)
 have C2:=Za (C1.o.alloc (Z3 t))
 clear z
 go_wp2_with fail
 rw [<- M2.o] at V
 refine(V5 pb tb cap a _ 3 ts Lr _ _ C2.o.ps.rd (by simp) (by simp)).mono ?_
 rw [Hh3.o]
 rintro e w2 ⟨rfl,z⟩
 have C3:=Za (C2.o.below z)
 clear z
 go_wp2_with fail
 refine(Ta pb tb cap a d ts [112,114,105,110,116] _ C3.o.ps OK.o).mono ?_
 rw [E0.o,if_pos rfl]
 rintro e w3 ⟨rfl,C,J⟩
 have F:=Za (C3.o.step C J)
 clear C J
 obtain⟨⟨k0,k1,k2,k3⟩,_,N4⟩:=Yh F.o.b0
 go_wp2_with fail
 have Lz:w1.heap.size≠w.heap.size:=by have:=C1.o.sz; omega
 have Uq:(kT ((w3).drew) w1.heap.size t):=(Y8 (F.o.drew.b0))
 have HC:xQ (Calls prog 145 #[qP pb] (w3).drew fun e j=>(∃ chain,e = .panicked chain/\Ya pb tb cap ts d w Z6 R e j)∨∃ (y:NV) (D:Ty) (b2:Nat),e = .returned (y.val)/\((kT j w1.heap.size t))/\xQ (R = .inl (Zp 17 [] 0 t.line t.col [] [] [D],b2)/\Y4 pb tb cap d ts w j b2 [(w1.heap.size,Z3 t),(w.heap.size,Zj.obj)] [(y,D)] [])):=by
  refine(HI.o _ F.o.drew.ps).mono ?_;intro e j Zh;rcases Yr Zh with⟨er,li,co,hr,rfl,C⟩ | ⟨D,b2,v,hr,rfl,C,J,hv⟩
  ·exact .inl ⟨_,rfl,F.o.drew.st.trans C,by rw [V.o,hr]; rfl⟩
  obtain⟨y,rfl,hv⟩:=hv;have CN:=(F.o.drew.step C J).addN hv F.o.drew.sz;exact .inr ⟨y,D,b2,rfl,(Y8 (CN.b0)),by rw [V.o,hr]; rfl,CN⟩
 go_wp2_with fail
 go_region_held (fun W=>(kT W w1.heap.size t)) (first | with_reducible assumption | with_reducible exact Vs.o _ | with_reducible exact Wm.o _ _ _ _ _ _ _ _) (first
  | (go_at_call 145; refine HC.o.mono ?_; rintro e j (⟨ch,rfl,hf⟩ | ⟨y,D,b2,rfl,t5,HX⟩); exact⟨rfl,hf⟩; have Vs:xQ (∀ o,(kT ((j.alloc o)) w1.heap.size t)):=(fun o=>(Y8 ((HX.o.2.alloc o).b1))))
  | (go_at_call 123; refine(L7 t ⟨17,⟨#[]⟩,0,0,0,none,0,0,none,0,0,some (aP j.heap.size 0),1,1⟩ _).mono ?_; rintro e I ⟨rfl,z⟩; have A:=Za ((HX.o.2.alloc _).below z); have t6:(kT I w1.heap.size t):=(Y8 (A.o.b1)); have Pl:=Za (Zn (x:=Zj) (A.o.b2)); obtain⟨⟨r0,r1,r2,r3,r4,r5,r6,r7⟩,⟨f0,f1,f2,f3,f4,f5,f6,f7⟩,Yw⟩:=Pl.o; have Wm:xQ (∀ M O T Z N v5 v6 v7,(kT ((L9 I w.heap.size M O T Z N v5 v6 v7)) w1.heap.size t)):=(fun M O T Z N v5 v6 v7=>(Y8 ((Jm Lz M O T Z N v5 v6 v7).trans (A.o.b1)))); clear z))
 all_goals
  go_wp2_with fail;rw [HX.o.1];refine r64 rfl rfl (Wv (x:=wC t j.heap.size) A.o.b2) rfl ⟨Wy A.o.st hp (xR) (wC t j.heap.size),Ve A.o.ps hp (wC t j.heap.size),_,rfl,wC t j.heap.size,rfl,?_⟩;exact((Ko A.o.n0 A.o.b0 (by have:=HX.o.2.sz; omega) (wC t j.heap.size) [] [] ⟨rfl,rfl⟩ ⟨rfl,xZ _,0,.inl rfl⟩ ⟨rfl,xZ _,.inl rfl⟩).put8 (xU _) (wC t j.heap.size)).lower (Nat.le_succ _)
theorem iW (pb tb cap d:Nat) (ts:List Tok)  (ok:Ym ts) (a:Nat) (h3:(Lr.any fun s=>Zg ts a s)=false) (Mk:Zg ts a [112,114,105,110,116]=false) (N:Zg ts a [114,101,97,100]=true) (w:World) (h:Ps w pb tb cap ts a d) :
  Calls prog 144 #[qP pb] w (Ya pb tb cap ts d w Z6 ((Ze ts (a+1) [40]).go fun _ b=>(Ze ts b [41]).go fun _ b => .inl (Zp 18 [] 0 (Zk ts a).line (Zk ts a).col [] [] [],b))):=by
 have H:=Za h
 have I:=Za ok
 have hp:=h.ltp
 have Z:=Za h3
 have E0:=Za Mk
 have O1:=Za N
 have Tq:=Za (fun w h=>J7 pb tb cap a d ts w h)
 obtain⟨t,Y⟩:=xE (Zk ts a)
 rw [<- Y] at Tq
 have M2:=Za Y
 clear Y
 have C0:=Za (U2 h Zj.obj)
 obtain⟨R,O⟩:∃ R:Pr Ty,R=((Ze ts (a+1) [40]).go fun _ b=>(Ze ts b [41]).go fun _ b => .inl (Zp 18 [] 0 (Zk ts a).line (Zk ts a).col [] [] [],b)):=⟨_,rfl⟩
 rw [<- O]
 have M:=Za O
 clear h ok O  h3 Mk N
 go_enter func144,ntmps144
 go_wp2_with fail
 refine(Tq.o _ C0.o.ps).mono ?_
 rintro e w1 ⟨rfl,C⟩
 have C1:=Za (C0.o.below C)
 have C2:=Za (C1.o.alloc (Z3 t))
 clear C
 go_wp2_with fail
 rw [<- M2.o] at M
 refine(V5 pb tb cap a _ 3 ts Lr _ _ C2.o.ps.rd (by simp) (by simp)).mono ?_
 rw [Z.o]
 rintro e w2 ⟨rfl,C⟩
 have C3:=Za (C2.o.below C)
 clear C
 go_wp2_with fail
 refine(Ta pb tb cap a d ts [112,114,105,110,116] _ C3.o.ps I.o).mono ?_
 rw [E0.o,if_neg (by simp)]
 rintro e w3 ⟨rfl,j,z⟩
 have C4:=Za (C3.o.step j z)
 clear j z
 go_wp2_with fail
 refine(Ta pb tb cap a d ts [114,101,97,100] _ C4.o.ps I.o).mono ?_
 rw [O1.o,if_pos rfl]
 rintro e w4 ⟨rfl,j,z⟩
 have V:=Za (C4.o.step j z)
 clear j z
 go_wp2_with fail
 refine(Uy pb tb cap (a+1) d ts [40] _ V.o.ps I.o).mono ?_
 intro e w5 F
 rcases Yr F with⟨er,li,co,A,rfl,j⟩ | ⟨u1,b1,v1,A,rfl,j,z,hv⟩
 ·have HE:xQ (R = .inr (er,li,co)):=by rw [M.o,A]; exact rfl
  have T:=Za (V.o.st.trans j);clear A j F;go_wp2_with fail;exact⟨rfl,T.o,by rw [HE.o]⟩
 have Yl:xQ (R=(Ze ts b1 [41]).go fun _ b => .inl (Zp 18 [] 0 t.line t.col [] [] [],b)):=by rw [M.o,A]; exact rfl
 have C6:=Za ((V.o.step j z))
 clear A j z F hv
 go_wp2_with fail
 refine(Uy pb tb cap b1 d ts [41] _ C6.o.ps I.o).mono ?_
 intro e w6 F
 rcases Yr F with⟨er,li,co,A,rfl,j⟩ | ⟨u2,b2,v2,A,rfl,j,z,hv⟩
 ·have HE:xQ (R = .inr (er,li,co)):=by rw [Yl.o,A]; exact rfl
  have T:=Za (C6.o.st.trans j);clear A j F;go_wp2_with fail;exact⟨rfl,T.o,by rw [HE.o]⟩
 have Zy:xQ (R = .inl (Zp 18 [] 0 t.line t.col [] [] [],b2)):=by rw [Yl.o,A]; exact rfl
 have C7:=Za ((C6.o.step j z))
 clear A j z F hv
 obtain⟨⟨k0,k1,k2,k3⟩,_,N4⟩:=Yh C7.o.b0
 go_wp2_with fail
 refine(L7 t ⟨18,⟨#[]⟩,0,0,0,none,0,0,none,0,0,none,0,0⟩ _).mono ?_
 rintro e w7 ⟨rfl,C⟩
 have J:=Za (C7.o.below C)
 clear C
 obtain⟨⟨r0,r1,r2,r3,r4,r5,r6,r7⟩,⟨f0,f1,f2,f3,f4,f5,f6,f7⟩,N⟩:=Zn (x:=Zj) (J.o.b1)
 go_wp2_with fail
 rw [Zy.o]
 refine r64 rfl rfl (Wv (x:=Va 18 [] 0 t) J.o.b1) rfl ⟨Wy J.o.st hp (xR) (Va 18 [] 0 t),Ve J.o.ps hp (Va 18 [] 0 t),_,rfl,Va 18 [] 0 t,rfl,?_⟩
 exact((Iz _ _ 18 [] 0 t).put8 (xU _) (Va 18 [] 0 t)).lower (Nat.le_succ _)
theorem iO (pb tb cap d:Nat) (ts:List Tok) (E:Nat->Pr Ty) (hE:Xs pb tb cap d ts Z6 92 E) (V:Ym ts) (a:Nat) (h3:(Lr.any fun s=>Zg ts a s)=false) (Mk:Zg ts a [112,114,105,110,116]=false) (M:Zg ts a [114,101,97,100]=false) (Zs:Zg ts a [40]=true) (w:World) (h:Ps w pb tb cap ts a d) :
  Calls prog 144 #[qP pb] w (Ya pb tb cap ts d w Z6 (((Ze ts a [40]).go fun _ b=>(E b).go fun x b=>(Ze ts b [41]).go fun _ b => .inl (x,b)).go fun x b => .inl (x,b))):=by
 have H:=Za h
 have OK:=Za V
 have hp:=h.ltp
 have HI:=Za (fun w h=>m8 pb tb cap d ts E hE V a w h)
 have T:=Za h3
 have E0:=Za Mk
 have O1:=Za M
 have F:=Za Zs
 have Z:=Za (fun w h=>J7 pb tb cap a d ts w h)
 obtain⟨t,O⟩:=xE (Zk ts a)
 rw [<- O] at Z
 have M2:=Za O
 clear O
 have C0:=Za (U2 h Zj.obj)
 obtain⟨R,N⟩:∃ R:Pr Ty,R=(((Ze ts a [40]).go fun _ b=>(E b).go fun x b=>(Ze ts b [41]).go fun _ b => .inl (x,b)).go fun x b => .inl (x,b)):=⟨_,rfl⟩
 rw [<- N]
 have Yc:=Za N
 clear h V N hE h3 Mk M Zs
 go_enter func144,ntmps144
 go_wp2_with fail
 refine(Z.o _ C0.o.ps).mono ?_
 rintro e w1 ⟨rfl,z⟩
 have C1:=Za (C0.o.below z)
 have C2:=Za (C1.o.alloc (Z3 t))
 clear z
 go_wp2_with fail
 refine(V5 pb tb cap a _ 3 ts Lr _ _ C2.o.ps.rd (by simp) (by simp)).mono ?_
 rw [T.o]
 rintro e w2 ⟨rfl,z⟩
 have C3:=Za (C2.o.below z)
 clear z
 go_wp2_with fail
 refine(Ta pb tb cap a d ts [112,114,105,110,116] _ C3.o.ps OK.o).mono ?_
 rw [E0.o,if_neg (by simp)]
 rintro e w3 ⟨rfl,j,A⟩
 have C4:=Za (C3.o.step j A)
 clear j A
 go_wp2_with fail
 refine(Ta pb tb cap a d ts [114,101,97,100] _ C4.o.ps OK.o).mono ?_
 rw [O1.o,if_neg (by simp)]
 rintro e w4 ⟨rfl,j,A⟩
 have C5:=Za (C4.o.step j A)
 clear j A
 go_wp2_with fail
 refine(V5 pb tb cap a _ 1 ts [[40]] _ _ C5.o.ps.rd (by simp) (by simp)).mono ?_
 rw [T0,F.o]
 rintro e w5 ⟨rfl,z⟩
 have J:=Za (C5.o.below z)
 clear z
 go_wp2_with fail
 refine(HI.o _ J.o.ps).mono ?_
 intro e w6 Y
 rcases Yr Y with⟨er,li,co,I,rfl,j⟩ | ⟨D,b,v,I,rfl,j,A,hv⟩
 ·have HE:xQ (R = .inr (er,li,co)):=by rw [Yc.o,I]; exact rfl
  have HF:=Za (J.o.st.trans j);clear I j Y;go_wp2_with fail;exact⟨rfl,HF.o,by rw [HE.o]⟩
 have Yl:xQ (R = .inl (D,b)):=by rw [Yc.o,I]; exact rfl
 obtain⟨x,rfl,hv⟩:=hv
 have C:=Za ((J.o.step j A).addN hv J.o.sz)
 clear I j A Y hv
 obtain⟨⟨r0,r1,r2,r3,r4,r5,r6,r7⟩,⟨f0,f1,f2,f3,f4,f5,f6,f7⟩,M⟩:=Zn (x:=Zj) (C.o.b1)
 go_wp2_with fail
 rw [Yl.o]
 refine r64 rfl rfl (Wv (x:=x) C.o.b1) rfl ⟨Wy C.o.st hp (xR) (x),Ve C.o.ps hp (x),_,rfl,x,rfl,?_⟩
 exact((C.o.n0).put8 (xU _) (x)).lower (Nat.le_succ _)
theorem iZ (pb tb cap d:Nat) (ts:List Tok) (K:Nat->Pr Ty) (hK:Xs pb tb cap d ts Yk 106 K) (Z:Ym ts) (a:Nat) (h3:(Lr.any fun s=>Zg ts a s)=false) (Mk:Zg ts a [112,114,105,110,116]=false) (N:Zg ts a [114,101,97,100]=false) (Zs:Zg ts a [40]=false) (Ti:Zg ts a [123]=false) (w:World) (h:Ps w pb tb cap ts a d) :
  Calls prog 144 #[qP pb] w (Ya pb tb cap ts d w Z6 ((wL ts K ts.length a).go fun x b => .inl (x,b))):=by
 have H:=Za h
 have T:=Za Z
 have hp:=h.ltp
 have HI:=Za (fun w h=>ziu pb tb cap d ts K hK Z a w h)
 have Y:=Za h3
 have E0:=Za Mk
 have O1:=Za N
 have I:=Za Zs
 have C:=Za Ti
 have Tq:=Za (fun w h=>J7 pb tb cap a d ts w h)
 obtain⟨t,V⟩:=xE (Zk ts a)
 rw [<- V] at Tq
 have M2:=Za V
 clear V
 have C0:=Za (U2 h Zj.obj)
 obtain⟨R,O⟩:∃ R:Pr Ty,R=((wL ts K ts.length a).go fun x b => .inl (x,b)):=⟨_,rfl⟩
 rw [<- O]
 have Yc:=Za O
 clear h Z O hK h3 Mk N Zs Ti
 go_enter func144,ntmps144
 go_wp2_with fail
 refine(Tq.o _ C0.o.ps).mono ?_
 rintro e w1 ⟨rfl,A⟩
 have C1:=Za (C0.o.below A)
 have C2:=Za (C1.o.alloc (Z3 t))
 clear A
 go_wp2_with fail
 refine(V5 pb tb cap a _ 3 ts Lr _ _ C2.o.ps.rd (by simp) (by simp)).mono ?_
 rw [Y.o]
 rintro e w2 ⟨rfl,A⟩
 have C3:=Za (C2.o.below A)
 clear A
 go_wp2_with fail
 refine(Ta pb tb cap a d ts [112,114,105,110,116] _ C3.o.ps T.o).mono ?_
 rw [E0.o,if_neg (by simp)]
 rintro e w3 ⟨rfl,j,z⟩
 have C4:=Za (C3.o.step j z)
 clear j z
 go_wp2_with fail
 refine(Ta pb tb cap a d ts [114,101,97,100] _ C4.o.ps T.o).mono ?_
 rw [O1.o,if_neg (by simp)]
 rintro e w4 ⟨rfl,j,z⟩
 have C5:=Za (C4.o.step j z)
 clear j z
 go_wp2_with fail
 refine(V5 pb tb cap a _ 1 ts [[40]] _ _ C5.o.ps.rd (by simp) (by simp)).mono ?_
 rw [T0,I.o]
 rintro e w5 ⟨rfl,A⟩
 have C6:=Za (C5.o.below A)
 clear A
 go_wp2_with fail
 refine(Ta pb tb cap a d ts [123] _ C6.o.ps T.o).mono ?_
 rw [C.o,if_neg (by simp)]
 rintro e w6 ⟨rfl,j,z⟩
 have M:=Za (C6.o.step j z)
 clear j z
 go_wp2_with fail
 refine(HI.o _ M.o.ps).mono ?_
 intro e w7 Zh
 rcases Yr Zh with⟨er,li,co,J,rfl,j⟩ | ⟨D,b,v,J,rfl,j,z,hv⟩
 ·have HE:xQ (R = .inr (er,li,co)):=by rw [Yc.o,J]; exact rfl
  have HF:=Za (M.o.st.trans j);clear J j Zh;go_wp2_with fail;exact⟨rfl,HF.o,by rw [HE.o]⟩
 have Yl:xQ (R = .inl (D,b)):=by rw [Yc.o,J]; exact rfl
 obtain⟨x,rfl,hv⟩:=hv
 have F:=Za ((M.o.step j z).addN hv M.o.sz)
 clear J j z Zh hv
 obtain⟨⟨r0,r1,r2,r3,r4,r5,r6,r7⟩,⟨f0,f1,f2,f3,f4,f5,f6,f7⟩,N⟩:=Zn (x:=Zj) (F.o.b1)
 go_wp2_with fail
 rw [Yl.o]
 refine r64 rfl rfl (Wv (x:=x) F.o.b1) rfl ⟨Wy F.o.st hp (xR) (x),Ve F.o.ps hp (x),_,rfl,x,rfl,?_⟩
 exact((F.o.n0).put8 (xU _) (x)).lower (Nat.le_succ _)
theorem iN (pb tb cap d:Nat) (ts:List Tok) (E:Nat->Pr Ty) (hE:Xs pb tb cap d ts Z6 92 E) (ok:Ym ts) (a:Nat) (h3:(Lr.any fun s=>Zg ts a s)=false) (Mk:Zg ts a [112,114,105,110,116]=false) (Yw:Zg ts a [114,101,97,100]=false) (Zs:Zg ts a [40]=false) (Ti:Zg ts a [123]=true) (w:World) (h:Ps w pb tb cap ts a d) :
  Calls prog 144 #[qP pb] w (Ya pb tb cap ts d w Z6 ((yO ts E ts.length (a+1)).go fun x b => .inl (uG (Zk ts a) x,b))):=by
 have H:=Za h
 have OK:=Za ok
 have hp:=h.ltp
 have HI:=Za (fun w h=>oJ pb tb cap d ts E hE ok (a+1) w h)
 have Hh3:=Za h3
 have E0:=Za Mk
 have O1:=Za Yw
 have N:=Za Zs
 have M:=Za Ti
 have Tq:=Za (fun w h=>J7 pb tb cap a d ts w h)
 obtain⟨t,ht⟩:=xE (Zk ts a)
 rw [<- ht] at Tq
 have M2:=Za ht
 clear ht
 have C0:=Za (U2 h Zj.obj)
 obtain⟨R,hR⟩:∃ R:Pr Ty,R=((yO ts E ts.length (a+1)).go fun x b => .inl (uG (Zk ts a) x,b)):=⟨_,rfl⟩
 rw [<- hR]
 have Z:=Za hR
 clear h ok hR hE h3 Mk Yw Zs Ti
 go_enter func144,ntmps144
 go_wp2_with fail
 refine(Tq.o _ C0.o.ps).mono ?_
 rintro e w1 ⟨rfl,z⟩
 have C1:=Za (C0.o.below z)
 have C2:=Za (C1.o.alloc (Z3 t))
 clear z
 go_wp2_with fail
 rw [<- M2.o] at Z
 refine(V5 pb tb cap a _ 3 ts Lr _ _ C2.o.ps.rd (by simp) (by simp)).mono ?_
 rw [Hh3.o]
 rintro e w2 ⟨rfl,z⟩
 have C3:=Za (C2.o.below z)
 clear z
 go_wp2_with fail
 refine(Ta pb tb cap a d ts [112,114,105,110,116] _ C3.o.ps OK.o).mono ?_
 rw [E0.o,if_neg (by simp)]
 rintro e w3 ⟨rfl,j,A⟩
 have C4:=Za (C3.o.step j A)
 clear j A
 go_wp2_with fail
 refine(Ta pb tb cap a d ts [114,101,97,100] _ C4.o.ps OK.o).mono ?_
 rw [O1.o,if_neg (by simp)]
 rintro e w4 ⟨rfl,j,A⟩
 have C5:=Za (C4.o.step j A)
 clear j A
 go_wp2_with fail
 refine(V5 pb tb cap a _ 1 ts [[40]] _ _ C5.o.ps.rd (by simp) (by simp)).mono ?_
 rw [T0,N.o]
 rintro e w5 ⟨rfl,z⟩
 have C6:=Za (C5.o.below z)
 clear z
 go_wp2_with fail
 refine(Ta pb tb cap a d ts [123] _ C6.o.ps OK.o).mono ?_
 rw [M.o,if_pos rfl]
 rintro e w6 ⟨rfl,j,A⟩
 have F:=Za (C6.o.step j A)
 clear j A
 obtain⟨⟨k0,k1,k2,k3⟩,_,N4⟩:=Yh F.o.b0
 go_wp2_with fail
 have Lz:w1.heap.size≠w.heap.size:=by have:=C1.o.sz; omega
 have Uq:(kT ((w6).drew) w1.heap.size t):=(Y8 (F.o.drew.b0))
 have HC:xQ (Calls prog 147 #[qP pb] (w6).drew fun e I=>(∃ chain,e = .panicked chain/\Ya pb tb cap ts d w Z6 R e I)∨∃ (y:NV) (D:Ty) (b2:Nat),e = .returned (y.val)/\((kT I w1.heap.size t))/\xQ (R = .inl (uG t D,b2)/\Y4 pb tb cap d ts w I b2 [(w1.heap.size,Z3 t),(w.heap.size,Zj.obj)] [(y,D)] [])):=by
  refine(HI.o _ F.o.drew.ps).mono ?_;intro e I Zh;rcases Yr Zh with⟨er,li,co,hr,rfl,j⟩ | ⟨D,b2,v,hr,rfl,j,A,hv⟩
  ·exact .inl ⟨_,rfl,F.o.drew.st.trans j,by rw [Z.o,hr]; rfl⟩
  obtain⟨y,rfl,hv⟩:=hv;have CN:=(F.o.drew.step j A).addN hv F.o.drew.sz;exact .inr ⟨y,D,b2,rfl,(Y8 (CN.b0)),by rw [Z.o,hr]; rfl,CN⟩
 go_wp2_with fail
 go_region_held (fun W=>(kT W w1.heap.size t)) (first | with_reducible assumption | with_reducible exact Vs.o _ | with_reducible exact Wm.o _ _ _ _ _ _ _ _) (first
  | (go_at_call 147; refine HC.o.mono ?_; rintro e I (⟨ch,rfl,hf⟩ | ⟨y,D,b2,rfl,t5,HX⟩); exact⟨rfl,hf⟩; have Vs:xQ (∀ o,(kT ((I.alloc o)) w1.heap.size t)):=(fun o=>(Y8 ((HX.o.2.alloc o).b1))))
  | (go_at_call 123; refine(L7 t y _).mono ?_; rintro e J ⟨rfl,z⟩; have C:=Za (HX.o.2.below z); have t6:(kT J w1.heap.size t):=(Y8 (C.o.b0)); have Pl:=Za (Zn (x:=Zj) (C.o.b1)); obtain⟨⟨r0,r1,r2,r3,r4,r5,r6,r7⟩,⟨f0,f1,f2,f3,f4,f5,f6,f7⟩,Yw⟩:=Pl.o; have Wm:xQ (∀ O V Y v3 T v5 v6 v7,(kT ((L9 J w.heap.size O V Y v3 T v5 v6 v7)) w1.heap.size t)):=(fun O V Y v3 T v5 v6 v7=>(Y8 ((Jm Lz O V Y v3 T v5 v6 v7).trans (C.o.b0)))); clear z))
 all_goals
  go_wp2_with fail;rw [HX.o.1];refine r64 rfl rfl (Wv (x:={ y with li:=t.line,co:=t.col }) C.o.b1) rfl ⟨Wy C.o.st hp (xR) ({ y with li:=t.line,co:=t.col }),Ve C.o.ps hp ({ y with li:=t.line,co:=t.col }),_,rfl,{ y with li:=t.line,co:=t.col },rfl,?_⟩;exact((zfj C.o.n0 t).put8 (xU _) ({ y with li:=t.line,co:=t.col })).lower (Nat.le_succ _)
def IntE (_:Nat) (_:World) (v:Value) (x:Int):Prop:=v=iP x
def Cu (ts:List Tok) (a:Nat):Pr Int:=if 0<=Nv (Zk ts a) Qj then .inl (Nv (Zk ts a) Qj,a+1)else Vj ts 7 a
theorem tag_c (pb tb cap d:Nat) (ts:List Tok) (F:Ym ts) (a:Nat) (w:World) (h:Ps w pb tb cap ts a d) :
  Calls prog 137 #[qP pb] w (Ya pb tb cap ts d w IntE (Cu ts a)):=by
 have H:=Za h
 have OK:=Za F
 have N:=h.ltp
 have M:=Za (cC pb tb cap a w.heap.size 6 ts Qj w 9 h.rd rfl (by simp [Qj]))
 have V:xQ (0<=Nv (Zk ts a) Qj->a+1<ts.length):=fun hv=>by
  have:=lE ts a Qj;rw [show decide (0<=Nv (Zk ts a) Qj)=true by simpa using hv] at this;obtain⟨s,_,h2⟩:=List.any_eq_true.1 this.symm;exact Xx F.ends h.lt h2
 clear h F
 unfold Cu
 obtain⟨J,C⟩:=xE (Nv (Zk ts a) Qj)
 rw [<- C] at M V ⊢
 clear C
 by_cases A:0<=J
 ·rw [if_pos A]
  have Zt:¬ J<0:=by omega
  have B1:=Za (V.o A);clear A;go_enter func137,j;go_wp2_with fail;refine M.o.mono ?_;rintro e w1 ⟨rfl,z⟩;have P1:=Za (H.o.below z);have I:=Za z;clear z;go_wp2_with fail;refine(Jj pb tb cap a d ts _ P1.o B1.o OK.o.len).mono ?_;rintro e w2 ⟨rfl,O,Y⟩;have HP:=Za Y;have Zx:=Za ((Zl.of N I.o).trans O);clear O Y;go_wp2_with fail;go_ret;exact⟨Zx.o,HP.o,_,rfl,rfl⟩
 ·rw [if_neg A]
  have Zt:J<0:=by omega
  clear A;go_enter func137,j;go_wp2_with fail;refine M.o.mono ?_;rintro e w1 ⟨rfl,z⟩;have P1:=Za (H.o.below z);have I:=Za z;clear z;go_wp2_with fail;refine(yA pb tb cap a d ts _ P1.o 7).mono ?_;rintro e w2 ⟨rfl,T⟩;have Z:=Za (Zz I.o T);clear T;go_wp2_with fail;exact⟨rfl,Zl.of N Z.o,rfl⟩
theorem zbk (pb tb cap d a:Nat) (ts:List Tok) (F:Pr Ty) (Z:∀ w,Ps w pb tb cap ts a d->Calls prog 116 #[qP pb] w (Ya pb tb cap ts d w Z6 F)) (N:Zg ts a [108,101,116]=true) (V:Ym ts) (w:World) (h:Ps w pb tb cap ts a d) :
  Calls prog 108 #[qP pb] w (Ya pb tb cap ts d w Z6 (F.go fun x b => .inl (x,b))):=by
 have H:=Za h
 have OK:=Za V
 have M:=h.ltp
 have HC:=Za Z
 have B4:=Za N
 have Y:=Za (U2 h Zj.obj)
 obtain⟨R,J⟩:∃ R:Pr Ty,R=(F.go fun x b => .inl (x,b)):=⟨_,rfl⟩
 rw [<- J]
 have T:=Za J
 clear h V J Z N
 go_enter func108,ntmps108
 go_wp2_with fail
 refine(V5 pb tb cap a _ 1 ts [[108,101,116]] _ _ Y.o.ps.rd (by simp) (by simp)).mono ?_
 rw [T0,B4.o]
 rintro e w1 ⟨rfl,O⟩
 have C:=Za (Y.o.below O)
 clear O
 go_wp2_with fail
 refine(HC.o _ C.o.ps).mono ?_
 intro e w2 I
 rcases Yr I with⟨er,li,co,A,rfl,j⟩ | ⟨D,b,v,A,rfl,j,Zc,hv⟩
 ·have HE:xQ (R = .inr (er,li,co)):=by rw [T.o,A]; exact rfl
  have HF:=Za (C.o.st.trans j);clear A j I;go_wp2_with fail;exact⟨rfl,HF.o,by rw [HE.o]⟩
 have Yl:xQ (R = .inl (D,b)):=by rw [T.o,A]; exact rfl
 obtain⟨x,rfl,hv⟩:=hv
 have z:=Za ((C.o.step j Zc).addN hv C.o.sz)
 clear A j Zc I hv
 obtain⟨⟨F,r1,r2,r3,r4,r5,r6,r7⟩,⟨f0,f1,f2,f3,f4,f5,f6,f7⟩,Yw⟩:=Zn (x:=Zj) (z.o.b0)
 go_wp2_with fail
 rw [Yl.o]
 refine r64 rfl rfl (Wv (x:=x) z.o.b0) rfl ⟨Wy z.o.st M (xR) (x),Ve z.o.ps M (x),_,rfl,x,rfl,?_⟩
 exact((z.o.n0).put8 (xU _) (x)).lower (Nat.le_succ _)
theorem zbj (pb tb cap d a:Nat) (ts:List Tok) (I:Pr Ty) (hc:∀ w,Ps w pb tb cap ts a d->Calls prog 117 #[qP pb] w (Ya pb tb cap ts d w Z6 I)) (T:Zg ts a [108,101,116]=false) (Y:Zg ts a [105,102]=true) (Z:Ym ts) (w:World) (h:Ps w pb tb cap ts a d) :
  Calls prog 108 #[qP pb] w (Ya pb tb cap ts d w Z6 (I.go fun x b => .inl (x,b))):=by
 have H:=Za h
 have OK:=Za Z
 have N:=h.ltp
 have HC:=Za hc
 have B4:=Za T
 have Y5:=Za Y
 have C0:=Za (U2 h Zj.obj)
 obtain⟨R,M⟩:∃ R:Pr Ty,R=(I.go fun x b => .inl (x,b)):=⟨_,rfl⟩
 rw [<- M]
 have V:=Za M
 clear h Z M hc T Y
 go_enter func108,ntmps108
 go_wp2_with fail
 refine(V5 pb tb cap a _ 1 ts [[108,101,116]] _ _ C0.o.ps.rd (by simp) (by simp)).mono ?_
 rw [T0,B4.o]
 rintro e w1 ⟨rfl,z⟩
 have O:=Za (C0.o.below z)
 clear z
 go_wp2_with fail
 refine(V5 pb tb cap a _ 1 ts [[105,102]] _ _ O.o.ps.rd (by simp) (by simp)).mono ?_
 rw [T0,Y5.o]
 rintro e w2 ⟨rfl,z⟩
 have F:=Za (O.o.below z)
 clear z
 go_wp2_with fail
 refine(HC.o _ F.o.ps).mono ?_
 intro e w3 J
 rcases Yr J with⟨er,li,co,C,rfl,A⟩ | ⟨D,b,v,C,rfl,A,Zc,hv⟩
 ·have HE:xQ (R = .inr (er,li,co)):=by rw [V.o,C]; exact rfl
  have HF:=Za (F.o.st.trans A);clear C A J;go_wp2_with fail;exact⟨rfl,HF.o,by rw [HE.o]⟩
 have Yl:xQ (R = .inl (D,b)):=by rw [V.o,C]; exact rfl
 obtain⟨x,rfl,hv⟩:=hv
 have j:=Za ((F.o.step A Zc).addN hv F.o.sz)
 clear C A Zc J hv
 obtain⟨⟨I,r1,r2,r3,r4,r5,r6,r7⟩,⟨f0,f1,f2,f3,f4,f5,f6,f7⟩,Yw⟩:=Zn (x:=Zj) (j.o.b0)
 go_wp2_with fail
 rw [Yl.o]
 refine r64 rfl rfl (Wv (x:=x) j.o.b0) rfl ⟨Wy j.o.st N (xR) (x),Ve j.o.ps N (x),_,rfl,x,rfl,?_⟩
 exact((j.o.n0).put8 (xU _) (x)).lower (Nat.le_succ _)
theorem zbi (pb tb cap d a:Nat) (ts:List Tok) (I:Pr Ty) (hc:∀ w,Ps w pb tb cap ts a d->Calls prog 118 #[qP pb] w (Ya pb tb cap ts d w Z6 I)) (T:Zg ts a [108,101,116]=false) (h1:Zg ts a [105,102]=false) (V:Zg ts a [102,110]=true) (ok:Ym ts) (w:World) (h:Ps w pb tb cap ts a d) :
  Calls prog 108 #[qP pb] w (Ya pb tb cap ts d w Z6 (I.go fun x b => .inl (x,b))):=by
 have H:=Za h
 have OK:=Za ok
 have N:=h.ltp
 have HC:=Za hc
 have B4:=Za T
 have Y5:=Za h1
 have Vn:=Za V
 have C0:=Za (U2 h Zj.obj)
 obtain⟨R,M⟩:∃ R:Pr Ty,R=(I.go fun x b => .inl (x,b)):=⟨_,rfl⟩
 rw [<- M]
 have Z:=Za M
 clear h ok M hc T h1 V
 go_enter func108,ntmps108
 go_wp2_with fail
 refine(V5 pb tb cap a _ 1 ts [[108,101,116]] _ _ C0.o.ps.rd (by simp) (by simp)).mono ?_
 rw [T0,B4.o]
 rintro e w1 ⟨rfl,j⟩
 have O:=Za (C0.o.below j)
 clear j
 go_wp2_with fail
 refine(V5 pb tb cap a _ 1 ts [[105,102]] _ _ O.o.ps.rd (by simp) (by simp)).mono ?_
 rw [T0,Y5.o]
 rintro e w2 ⟨rfl,j⟩
 have Y:=Za (O.o.below j)
 clear j
 go_wp2_with fail
 refine(V5 pb tb cap a _ 1 ts [[102,110]] _ _ Y.o.ps.rd (by simp) (by simp)).mono ?_
 rw [T0,Vn.o]
 rintro e w3 ⟨rfl,j⟩
 have F:=Za (Y.o.below j)
 clear j
 go_wp2_with fail
 refine(HC.o _ F.o.ps).mono ?_
 intro e w4 J
 rcases Yr J with⟨er,li,co,A,rfl,z⟩ | ⟨D,b,v,A,rfl,z,Zc,hv⟩
 ·have HE:xQ (R = .inr (er,li,co)):=by rw [Z.o,A]; exact rfl
  have HF:=Za (F.o.st.trans z);clear A z J;go_wp2_with fail;exact⟨rfl,HF.o,by rw [HE.o]⟩
 have Yl:xQ (R = .inl (D,b)):=by rw [Z.o,A]; exact rfl
 obtain⟨x,rfl,hv⟩:=hv
 have C:=Za ((F.o.step z Zc).addN hv F.o.sz)
 clear A z Zc J hv
 obtain⟨⟨I,r1,r2,r3,r4,r5,r6,r7⟩,⟨f0,f1,f2,f3,f4,f5,f6,f7⟩,Yw⟩:=Zn (x:=Zj) (C.o.b0)
 go_wp2_with fail
 rw [Yl.o]
 refine r64 rfl rfl (Wv (x:=x) C.o.b0) rfl ⟨Wy C.o.st N (xR) (x),Ve C.o.ps N (x),_,rfl,x,rfl,?_⟩
 exact((C.o.n0).put8 (xU _) (x)).lower (Nat.le_succ _)
theorem zbl (pb tb cap d a:Nat) (ts:List Tok) (I:Pr Ty) (hc:∀ w,Ps w pb tb cap ts a d->Calls prog 119 #[qP pb] w (Ya pb tb cap ts d w Z6 I)) (T:Zg ts a [108,101,116]=false) (h1:Zg ts a [105,102]=false) (V:Zg ts a [102,110]=false) (ok:Ym ts) (w:World) (h:Ps w pb tb cap ts a d) :
  Calls prog 108 #[qP pb] w (Ya pb tb cap ts d w Z6 (I.go fun x b => .inl (x,b))):=by
 have H:=Za h
 have OK:=Za ok
 have N:=h.ltp
 have HC:=Za hc
 have B4:=Za T
 have Y5:=Za h1
 have Vn:=Za V
 have C0:=Za (U2 h Zj.obj)
 obtain⟨R,M⟩:∃ R:Pr Ty,R=(I.go fun x b => .inl (x,b)):=⟨_,rfl⟩
 rw [<- M]
 have Z:=Za M
 clear h ok M hc T h1 V
 go_enter func108,ntmps108
 go_wp2_with fail
 refine(V5 pb tb cap a _ 1 ts [[108,101,116]] _ _ C0.o.ps.rd (by simp) (by simp)).mono ?_
 rw [T0,B4.o]
 rintro e w1 ⟨rfl,j⟩
 have O:=Za (C0.o.below j)
 clear j
 go_wp2_with fail
 refine(V5 pb tb cap a _ 1 ts [[105,102]] _ _ O.o.ps.rd (by simp) (by simp)).mono ?_
 rw [T0,Y5.o]
 rintro e w2 ⟨rfl,j⟩
 have Y:=Za (O.o.below j)
 clear j
 go_wp2_with fail
 refine(V5 pb tb cap a _ 1 ts [[102,110]] _ _ Y.o.ps.rd (by simp) (by simp)).mono ?_
 rw [T0,Vn.o]
 rintro e w3 ⟨rfl,j⟩
 have F:=Za (Y.o.below j)
 clear j
 go_wp2_with fail
 refine(HC.o _ F.o.ps).mono ?_
 intro e w4 J
 rcases Yr J with⟨er,li,co,A,rfl,z⟩ | ⟨D,b,v,A,rfl,z,Zc,hv⟩
 ·have HE:xQ (R = .inr (er,li,co)):=by rw [Z.o,A]; exact rfl
  have HF:=Za (F.o.st.trans z);clear A z J;go_wp2_with fail;exact⟨rfl,HF.o,by rw [HE.o]⟩
 have Yl:xQ (R = .inl (D,b)):=by rw [Z.o,A]; exact rfl
 obtain⟨x,rfl,hv⟩:=hv
 have C:=Za ((F.o.step z Zc).addN hv F.o.sz)
 clear A z Zc J hv
 obtain⟨⟨I,r1,r2,r3,r4,r5,r6,r7⟩,⟨f0,f1,f2,f3,f4,f5,f6,f7⟩,Yw⟩:=Zn (x:=Zj) (C.o.b0)
 go_wp2_with fail
 rw [Yl.o]
 refine r64 rfl rfl (Wv (x:=x) C.o.b0) rfl ⟨Wy C.o.st N (xR) (x),Ve C.o.ps N (x),_,rfl,x,rfl,?_⟩
 exact((C.o.n0).put8 (xU _) (x)).lower (Nat.le_succ _)
end
end Go.Proofs.YtoppemkjhhlegaaGreatDoor
