/- Part. -/
import Derived.Test.YtoppemkjhhlegaaGreatDoorPart6
set_option maxRecDepth 100000
set_option maxHeartbeats 4000000
namespace Go.Proofs.YtoppemkjhhlegaaGreatDoor
open Go.Proofs.Tryz
open Go.RowKit
namespace Lx
theorem parse_c (s:bA) (hs:s.size<=9223372036854775807) (w:wD):Calls prog 101 #[.string s] w fun e w'=>e = .returned (Cp (Ns s.data.toList))/\w'=w:=by
 by_cases C:s.size=0
 ·have I:s.toList.isEmpty=true:=by rw [pX]; simp [C]
  rw [sD C];go_enter func101,ntmps101;go_wp2
  go_ret2
  exact⟨rfl,rfl⟩
 have H:0<s.size:=by omega
 have I:s.toList.isEmpty=false:=by rw [pX]; simp [C]
 by_cases h:(s[0].toNat:Int)=48/\1<s.size
 ·rw [sE H h.1 h.2]
  obtain⟨N5,Kl⟩:=h;go_enter func101,ntmps101;go_wp2
  go_ret2
  exact⟨rfl,rfl⟩
 rw [bE H h]
 have F:((s[0].toNat:Int)=48/\s.size<=1)∨¬ (s[0].toNat:Int)=48:=by omega
 clear h C
 rcases F with⟨F,Tj⟩ | F
 all_goals
  go_enter func101,ntmps101;go_wp2
  go_loop [4,21] (fun n i=>∃ (k:Nat) (m:Int),k<=s.size/\i=iP k/\n=iP m/\0<=m/\m<=9223372036854775807/\Lc s.data.toList 0=Lc (s.data.toList.drop k) m) (fun _ i=>s.size - (intOf i).toNat)
  case atStart=>exact⟨0,0,xZ _,rfl,rfl,by omega,by omega,rfl⟩
  case round =>
   obtain⟨k,m,hk,rfl,rfl,hm0,Kk,j⟩:=hrel;have A:xQ (Lc s.data.toList 0=Lc (s.data.toList.drop k) m):=j;clear j;by_cases z:k<s.size
   ·by_cases b1:(s[k].toNat:Int)<48
    ·go_wp2
     go_ret2
     rw [A.o,sB z m (Or.inl b1)];exact⟨rfl,rfl⟩
    by_cases b2:57<(s[k].toNat:Int)
    ·go_wp2
     go_ret2
     rw [A.o,sB z m (Or.inr b2)];exact⟨rfl,rfl⟩
    by_cases b3:(9223372036854775807 - ((s[k].toNat:Int) - 48)) / 10<m
    ·go_wp2
     go_ret2
     rw [A.o,zfh z m (by omega) b3];exact⟨rfl,rfl⟩
    ·go_wp2
     go_round
     case rel=>exact⟨k+1,m*10+((s[k].toNat:Int) - 48),by omega,by go_num,rfl,by omega,by omega,A.o.trans (zfg z m (by omega) b3)⟩
     case measure=>simp [intOf]; omega
   ·go_wp2
    go_ret2
    rw [A.o,zff z m];exact⟨rfl,rfl⟩
end Lx
section
attribute [local go_sem ↓] Go.wp_at_zero Go.wp_at_succ
theorem ziy (pb tb cap d:Nat) (ts:List Tok)  (J:Ym ts) (a:Nat) (Z:(Zk ts a).kind=3) (w:wD) (h:Ps w pb tb cap ts a d) :
  Calls prog 148 #[qP pb] w (Ya pb tb cap ts d w Z6 (.inl (Zp 0 [] ((Ns (Zk ts a).text).getD 0) (Zk ts a).line (Zk ts a).col [] [] [],a+1))):=by
 have H:=Za h
 have OK:=Za J
 have M:=h.ltp
 have HN:=Za (J.ends a h.lt (by rw [Z]; decide))
 have B2:=Za (fun w h=>Jj pb tb cap a d ts w h HN.o J.len)
 have Tq:=Za (fun w h=>J7 pb tb cap a d ts w h)
 have Gz:=Za (J.txt a)
 obtain⟨t,ht⟩:=xE (Zk ts a)
 rw [<- ht] at Tq B2 Gz Z ⊢
 clear ht
 obtain⟨kd,j,z,A⟩:=t
 obtain rfl:kd=3:=Z
 have C0:=Za (U2 h Zj.obj)
 obtain⟨R,Y⟩:∃ R:Pr Ty,R=(.inl (Zp 0 [] ((Ns j).getD 0) z A [] [] [],a+1)):=⟨_,rfl⟩
 rw [<- Y]
 have V:=Za Y
 clear h J Y
 go_enter func148,ntmps148
 go_wp2_with fail
 refine(Tq.o _ C0.o.ps).mono ?_
 rintro e w1 ⟨rfl,F⟩
 have C1:=Za (C0.o.below F)
 have C2:=Za (C1.o.alloc (Z3 ⟨3,j,z,A⟩))
 clear F
 go_wp2_with fail
 refine(B2.o _ C2.o.ps).mono ?_
 rintro e w2 ⟨rfl,Zb,Zc⟩
 have O:=Za (C2.o.step Zb Zc)
 clear Zb Zc
 obtain⟨⟨k0,k1,k2,k3⟩,_,N4⟩:=Yh O.o.b0
 have Qt:=Za (fun w=>Lx.parse_c ⟨j.toArray⟩ (by have:=Gz.o; show j.toArray.size<=_; simp at this ⊢; omega) w)
 go_wp2_with fail
 refine(Qt.o _).mono ?_
 rintro e w3 ⟨rfl,rfl⟩
 obtain⟨pv,I⟩:=xE (Ns j)
 rw [<- I]
 rw [<- I] at V
 clear I
 cases pv with
 | none =>
  have T:xQ (R = .inl (Zp 0 [] 0 z A [] [] [],a+1)):=V.o;simp only [Cp,Option.getD_none,Option.isSome_none];go_wp2_with fail;refine(L7 ⟨3,j,z,A⟩ ⟨0,⟨#[]⟩,0,0,0,none,0,0,none,0,0,none,0,0⟩ _).mono ?_;rintro e w4 ⟨rfl,F⟩;have C:=Za (O.o.below F);clear F;obtain⟨⟨r0,r1,r2,r3,r4,r5,r6,r7⟩,⟨f0,f1,f2,f3,f4,f5,f6,f7⟩,Yw⟩:=Zn (x:=Zj) (C.o.b1);go_wp2_with fail
  rw [T.o];refine r64 rfl rfl (Wv (x:=Va 0 [] 0 ⟨3,j,z,A⟩) C.o.b1) rfl ⟨Wy C.o.st M (xR) (Va 0 [] 0 ⟨3,j,z,A⟩),Ve C.o.ps M (Va 0 [] 0 ⟨3,j,z,A⟩),_,rfl,Va 0 [] 0 ⟨3,j,z,A⟩,rfl,?_⟩;exact((Iz _ _ 0 [] 0 ⟨3,j,z,A⟩).put8 (xU _) (Va 0 [] 0 ⟨3,j,z,A⟩)).lower (Nat.le_succ _)
 | some N =>
  have T:xQ (R = .inl (Zp 0 [] N z A [] [] [],a+1)):=V.o;simp only [Cp,Option.getD_some,Option.isSome_some];go_wp2_with fail;refine(L7 ⟨3,j,z,A⟩ ⟨0,⟨#[]⟩,N,0,0,none,0,0,none,0,0,none,0,0⟩ _).mono ?_;rintro e w4 ⟨rfl,F⟩;have C:=Za (O.o.below F);clear F;obtain⟨⟨r0,r1,r2,r3,r4,r5,r6,r7⟩,⟨f0,f1,f2,f3,f4,f5,f6,f7⟩,Yw⟩:=Zn (x:=Zj) (C.o.b1);go_wp2_with fail
  rw [T.o];refine r64 rfl rfl (Wv (x:=Va 0 [] N ⟨3,j,z,A⟩) C.o.b1) rfl ⟨Wy C.o.st M (xR) (Va 0 [] N ⟨3,j,z,A⟩),Ve C.o.ps M (Va 0 [] N ⟨3,j,z,A⟩),_,rfl,Va 0 [] N ⟨3,j,z,A⟩,rfl,?_⟩;exact((Iz _ _ 0 [] N ⟨3,j,z,A⟩).put8 (xU _) (Va 0 [] N ⟨3,j,z,A⟩)).lower (Nat.le_succ _)
theorem ziz (pb tb cap d:Nat) (ts:List Tok)  (C:Ym ts) (a:Nat) (M:(Zk ts a).kind=4) (w:wD) (h:Ps w pb tb cap ts a d) :
  Calls prog 148 #[qP pb] w (Ya pb tb cap ts d w Z6 (.inl (Zp 1 (Zk ts a).text 0 (Zk ts a).line (Zk ts a).col [] [] [],a+1))):=by
 have H:=Za h
 have OK:=Za C
 have Y:=h.ltp
 have HN:=Za (C.ends a h.lt (by rw [M]; decide))
 have B2:=Za (fun w h=>Jj pb tb cap a d ts w h HN.o C.len)
 have Tq:=Za (fun w h=>J7 pb tb cap a d ts w h)
 have Gz:=Za (C.txt a)
 obtain⟨t,Z⟩:=xE (Zk ts a)
 rw [<- Z] at Tq B2 Gz M ⊢
 clear Z
 obtain⟨kd,j,z,A⟩:=t
 obtain rfl:kd=4:=M
 have O:=Za (U2 h Zj.obj)
 obtain⟨R,J⟩:∃ R:Pr Ty,R=(.inl (Zp 1 j 0 z A [] [] [],a+1)):=⟨_,rfl⟩
 rw [<- J]
 have Yc:=Za J
 clear h C J
 go_enter func148,ntmps148
 go_wp2_with fail
 refine(Tq.o _ O.o.ps).mono ?_
 rintro e w1 ⟨rfl,F⟩
 have C1:=Za (O.o.below F)
 have T:=Za (C1.o.alloc (Z3 ⟨4,j,z,A⟩))
 clear F
 go_wp2_with fail
 refine(B2.o _ T.o.ps).mono ?_
 rintro e w2 ⟨rfl,Zb,V⟩
 have N:=Za (T.o.step Zb V)
 clear Zb V
 obtain⟨⟨k0,k1,k2,k3⟩,_,N4⟩:=Yh N.o.b0
 go_wp2_with fail
 refine(L7 ⟨4,j,z,A⟩ ⟨1,⟨j.toArray⟩,0,0,0,none,0,0,none,0,0,none,0,0⟩ _).mono ?_
 rintro e w3 ⟨rfl,F⟩
 have I:=Za (N.o.below F)
 clear F
 obtain⟨⟨r0,r1,r2,r3,r4,r5,r6,r7⟩,⟨f0,f1,f2,f3,f4,f5,f6,f7⟩,Yw⟩:=Zn (x:=Zj) (I.o.b1)
 go_wp2_with fail
 rw [Yc.o]
 refine r64 rfl rfl (Wv (x:=Va 1 j 0 ⟨4,j,z,A⟩) I.o.b1) rfl ⟨Wy I.o.st Y (xR) (Va 1 j 0 ⟨4,j,z,A⟩),Ve I.o.ps Y (Va 1 j 0 ⟨4,j,z,A⟩),_,rfl,Va 1 j 0 ⟨4,j,z,A⟩,rfl,?_⟩
 exact((Iz _ _ 1 j 0 ⟨4,j,z,A⟩).put8 (xU _) (Va 1 j 0 ⟨4,j,z,A⟩)).lower (Nat.le_succ _)
theorem zix (pb tb cap d:Nat) (ts:List Tok) (K:Nat->Pr Ty) (O:Xs pb tb cap d ts Yk 106 K) (F:Ym ts) (a:Nat) (M:(Zk ts a).kind=1) (w:wD) (h:Ps w pb tb cap ts a d) :
  Calls prog 148 #[qP pb] w (Ya pb tb cap ts d w Z6 ((zO ts K ts.length a).go fun x b => .inl (x,b))):=by
 have H:=Za h
 have OK:=Za F
 have Y:=h.ltp
 have Na:=Za (fun w h=>zem pb tb cap d ts K O F a (F.ends a h.lt (by rw [M]; decide)) w h)
 have Tq:=Za (fun w h=>J7 pb tb cap a d ts w h)
 obtain⟨t,Z⟩:=xE (Zk ts a)
 rw [<- Z] at Tq M
 clear Z
 obtain⟨kd,tx,tl,tc⟩:=t
 obtain rfl:kd=1:=M
 have N:=Za (U2 h Zj.obj)
 obtain⟨R,I⟩:∃ R:Pr Ty,R=((zO ts K ts.length a).go fun x b => .inl (x,b)):=⟨_,rfl⟩
 rw [<- I]
 have T:=Za I
 clear h F I O
 go_enter func148,ntmps148
 go_wp2_with fail
 refine(Tq.o _ N.o.ps).mono ?_
 rintro e w1 ⟨rfl,hb⟩
 have C1:=Za (N.o.below hb)
 have C:=Za (C1.o.alloc (Z3 ⟨1,tx,tl,tc⟩))
 clear hb
 go_wp2_with fail
 refine(Na.o _ C.o.ps).mono ?_
 intro e w2 J
 rcases Yr J with⟨er,li,co,j,rfl,A⟩ | ⟨D,b,v,j,rfl,A,V,hv⟩
 ·have HE:xQ (R = .inr (er,li,co)):=by rw [T.o,j]; exact rfl
  have HF:=Za (C.o.st.trans A);clear j A J;go_wp2_with fail;exact⟨rfl,HF.o,by rw [HE.o]⟩
 have Yl:xQ (R = .inl (D,b)):=by rw [T.o,j]; exact rfl
 obtain⟨x,rfl,hv⟩:=hv
 have z:=Za ((C.o.step A V).addN hv C.o.sz)
 clear j A V J hv
 obtain⟨⟨r0,r1,r2,r3,r4,r5,r6,r7⟩,⟨f0,f1,f2,f3,f4,f5,f6,f7⟩,Yw⟩:=Zn (x:=Zj) (z.o.b1)
 go_wp2_with fail
 rw [Yl.o]
 refine r64 rfl rfl (Wv (x:=x) z.o.b1) rfl ⟨Wy z.o.st Y (xR) (x),Ve z.o.ps Y (x),_,rfl,x,rfl,?_⟩
 exact((z.o.n0).put8 (xU _) (x)).lower (Nat.le_succ _)
theorem ziv (pb tb cap d:Nat) (ts:List Tok)  (Z:Ym ts) (a:Nat) (C:(Zk ts a).kind≠3) (I:(Zk ts a).kind≠4) (A:(Zk ts a).kind≠1) (w:wD) (h:Ps w pb tb cap ts a d) :
  Calls prog 148 #[qP pb] w (Ya pb tb cap ts d w Z6 ((Vj ts 7 a:Pr Ty))):=by
 have H:=Za h
 have OK:=Za Z
 have hp:=h.ltp
 have J:=Za (fun wx (hx:Ps wx pb tb cap ts a d)=>yA pb tb cap a d ts wx hx 7)
 have Y:=Za (fun w h=>J7 pb tb cap a d ts w h)
 unfold Vj
 obtain⟨t,V⟩:=xE (Zk ts a)
 rw [<- V] at Y J C I A ⊢
 clear V
 obtain⟨z,tx,N,T⟩:=t
 have e3:(z == 3)=false:=by simpa using C
 have e4:(z == 4)=false:=by simpa using I
 have e1:(z == 1)=false:=by simpa using A
 clear C I A
 have M:=Za (U2 h Zj.obj)
 obtain⟨R,F⟩:∃ R:Pr Ty,R=(.inr (7,N,T)):=⟨_,rfl⟩
 rw [<- F]
 have Yc:=Za F
 clear h Z F
 go_enter func148,ntmps148
 go_wp2_with fail
 refine(Y.o _ M.o.ps).mono ?_
 rintro e w1 ⟨rfl,j⟩
 have C1:=Za (M.o.below j)
 have O:=Za (C1.o.alloc (Z3 ⟨z,tx,N,T⟩))
 clear j
 go_wp2_with fail
 refine(J.o _ O.o.ps).mono ?_
 rintro e w2 ⟨rfl,j⟩
 have C3:=Za (O.o.below j)
 clear j
 go_wp2_with fail
 exact⟨rfl,C3.o.st,by rw [Yc.o]⟩
def wM (ts:List Tok) (K:Nat->Pr Ty) (f a:Nat):Pr Ty :=
 if (Zk ts a).kind=3 then .inl (Zp 0 [] ((Ns (Zk ts a).text).getD 0) (Zk ts a).line (Zk ts a).col [] [] [],a+1)
 else if (Zk ts a).kind=4 then .inl (Zp 1 (Zk ts a).text 0 (Zk ts a).line (Zk ts a).col [] [] [],a+1)
 else if (Zk ts a).kind=1 then zO ts K f a else Vj ts 7 a
theorem ziw (pb tb cap d:Nat) (ts:List Tok) (K:Nat->Pr Ty) (F:Xs pb tb cap d ts Yk 106 K) (C:Ym ts) (a:Nat) (w:wD) (h:Ps w pb tb cap ts a d) :
  Calls prog 148 #[qP pb] w (Ya pb tb cap ts d w Z6 (wM ts K ts.length a)):=by
 unfold wM
 by_cases j:(Zk ts a).kind=3
 ·rw [if_pos j]
  exact ziy pb tb cap d ts C a j w h
 ·rw [if_neg j]
  by_cases A:(Zk ts a).kind=4
  ·rw [if_pos A]
   exact ziz pb tb cap d ts C a A w h
  ·rw [if_neg A]
   by_cases z:(Zk ts a).kind=1
   ·rw [if_pos z]
    have:=zix pb tb cap d ts K F C a z w h
    cases hp:zO ts K ts.length a with
    | inl p=>rw [hp] at this; exact this
    | inr p=>rw [hp] at this; exact this
   ·rw [if_neg z]
    exact ziv pb tb cap d ts C a j A z w h
abbrev wC (t:Tok) (kb:Nat):NV:=⟨17,⟨#[]⟩,0,t.line,t.col,none,0,0,none,0,0,some (aP kb 0),1,1⟩
def uI (t:Tok) (D:Ty):Ty:=match D with
 | .agg [k,tx,n,_,_,a,b,c] => .agg [k,tx,n,.lit (.int .i64 t.line),.lit (.int .i64 t.col),a,b,c]
 | D=>D
theorem zfl {lo:Nat} {w:wD} {y:NV} {D:Ty} (h:Y0 lo w y D) (t:Tok):Y0 lo w { y with li:=t.line,co:=t.col } (uI t D):=by
 obtain⟨k,tx,N,l,c,tys,ns,ks,rfl,j⟩:=h.place t.line t.col
 exact j
abbrev Lr:List (bS):=[[116,114,117,101],[102,97,108,115,101],[110,117,108,108]]
theorem mN (pb tb cap d a:Nat) (ts:List Tok) (F:Pr Ty) (V:∀ w,Ps w pb tb cap ts a d->Calls prog 146 #[qP pb] w (Ya pb tb cap ts d w Z6 F)) (ok:Ym ts) (h3:(Lr.any fun s=>Zg ts a s)=true) (w:wD) (h:Ps w pb tb cap ts a d) :
  Calls prog 144 #[qP pb] w (Ya pb tb cap ts d w Z6 (F.go fun x b => .inl (x,b))):=by
 have H:=Za h
 have OK:=Za ok
 have hp:=h.ltp
 have HC:=Za (V)
 have J:=Za h3
 have Tq:=Za (fun w h=>J7 pb tb cap a d ts w h)
 obtain⟨t,M⟩:=xE (Zk ts a)
 rw [<- M] at Tq
 have M2:=Za M
 clear M
 have T:=Za (U2 h Zj.obj)
 obtain⟨R,N⟩:∃ R:Pr Ty,R=(F.go fun x b => .inl (x,b)):=⟨_,rfl⟩
 rw [<- N]
 have Z:=Za N
 clear h ok N V h3
 go_enter func144,ntmps144
 go_wp2_with fail
 refine(Tq.o _ T.o.ps).mono ?_
 rintro e w1 ⟨rfl,A⟩
 have C1:=Za (T.o.below A)
 have Y:=Za (C1.o.alloc (Z3 t))
 clear A
 go_wp2_with fail
 refine(V5 pb tb cap a _ 3 ts Lr _ _ Y.o.ps.rd (by simp) (by simp)).mono ?_
 rw [J.o]
 rintro e w2 ⟨rfl,A⟩
 have I:=Za (Y.o.below A)
 clear A
 go_wp2_with fail
 refine(HC.o _ I.o.ps).mono ?_
 intro e w3 O
 rcases Yr O with⟨er,li,co,j,rfl,C⟩ | ⟨D,b,v,j,rfl,C,Zc,hv⟩
 ·have HE:xQ (R = .inr (er,li,co)):=by rw [Z.o,j]; exact rfl
  have HF:=Za (I.o.st.trans C);clear j C O;go_wp2_with fail;exact⟨rfl,HF.o,by rw [HE.o]⟩
 have Yl:xQ (R = .inl (D,b)):=by rw [Z.o,j]; exact rfl
 obtain⟨x,rfl,hv⟩:=hv
 have z:=Za ((I.o.step C Zc).addN hv I.o.sz)
 clear j C Zc O hv
 obtain⟨⟨F,r1,r2,r3,r4,r5,r6,r7⟩,⟨f0,f1,f2,f3,f4,f5,f6,f7⟩,Yw⟩:=Zn (x:=Zj) (z.o.b1)
 go_wp2_with fail
 rw [Yl.o]
 refine r64 rfl rfl (Wv (x:=x) z.o.b1) rfl ⟨Wy z.o.st hp (xR) (x),Ve z.o.ps hp (x),_,rfl,x,rfl,?_⟩
 exact((z.o.n0).put8 (xU _) (x)).lower (Nat.le_succ _)
theorem iW (pb tb cap d:Nat) (ts:List Tok) (E:Nat->Pr Ty) (hE:Xs pb tb cap d ts Z6 92 E) (ok:Ym ts) (a:Nat) (h3:(Lr.any fun s=>Zg ts a s)=false) (Mk:Zg ts a [112,114,105,110,116]=true) (w:wD) (h:Ps w pb tb cap ts a d) :
  Calls prog 144 #[qP pb] w (Ya pb tb cap ts d w Z6 (((Ze ts (a+1) [40]).go fun _ b=>(E b).go fun x b=>(Ze ts b [41]).go fun _ b => .inl (x,b)).go fun x b => .inl (Zp 17 [] 0 (Zk ts a).line (Zk ts a).col [] [] [x],b))):=by
 have H:=Za h
 have OK:=Za ok
 have hp:=h.ltp
 have HI:=Za (fun w h=>nA pb tb cap d ts E hE ok (a+1) w h)
 have Z:=Za h3
 have E0:=Za Mk
 have Tq:=Za (fun w h=>J7 pb tb cap a d ts w h)
 obtain⟨t,N⟩:=xE (Zk ts a)
 rw [<- N] at Tq
 have M2:=Za N
 clear N
 have C0:=Za (U2 h Zj.obj)
 obtain⟨R,hR⟩:∃ R:Pr Ty,R=(((Ze ts (a+1) [40]).go fun _ b=>(E b).go fun x b=>(Ze ts b [41]).go fun _ b => .inl (x,b)).go fun x b => .inl (Zp 17 [] 0 (Zk ts a).line (Zk ts a).col [] [] [x],b)):=⟨_,rfl⟩
 rw [<- hR]
 have Yc:=Za hR
 clear h ok hR hE h3 Mk
 go_enter func144,ntmps144
 go_wp2_with fail
 refine(Tq.o _ C0.o.ps).mono ?_
 rintro e w1 ⟨rfl,A⟩
 have C1:=Za (C0.o.below A)
 have C2:=Za (C1.o.alloc (Z3 t))
 clear A
 go_wp2_with fail
 rw [<- M2.o] at Yc
 refine(V5 pb tb cap a _ 3 ts Lr _ _ C2.o.ps.rd (by simp) (by simp)).mono ?_
 rw [Z.o]
 rintro e w2 ⟨rfl,A⟩
 have C3:=Za (C2.o.below A)
 clear A
 go_wp2_with fail
 refine(Ta pb tb cap a d ts [112,114,105,110,116] _ C3.o.ps OK.o).mono ?_
 rw [E0.o,if_pos rfl]
 rintro e w3 ⟨rfl,C,J⟩
 have F:=Za (C3.o.step C J)
 clear C J
 obtain⟨⟨k0,k1,k2,k3⟩,_,N4⟩:=Yh F.o.b0
 go_wp2_with fail
 have Lz:w1.heap.size≠w.heap.size:=by have:=C1.o.sz; omega
 have Uq:(kT ((w3).drew) w1.heap.size t):=(Y8 (F.o.drew.b0))
 have HC:xQ (Calls prog 145 #[qP pb] (w3).drew fun e j=>(∃ chain,e = .panicked chain/\Ya pb tb cap ts d w Z6 R e j)∨∃ (y:NV) (D:Ty) (b2:Nat),e = .returned (y.val)/\((kT j w1.heap.size t))/\xQ (R = .inl (Zp 17 [] 0 t.line t.col [] [] [D],b2)/\Y4 pb tb cap d ts w j b2 [(w1.heap.size,Z3 t),(w.heap.size,Zj.obj)] [(y,D)] [])):=by
  refine(HI.o _ F.o.drew.ps).mono ?_;intro e j Zh;rcases Yr Zh with⟨er,li,co,M,rfl,C⟩ | ⟨D,b2,v,M,rfl,C,J,hv⟩
  ·exact .inl ⟨_,rfl,F.o.drew.st.trans C,by rw [Yc.o,M]; rfl⟩
  obtain⟨y,rfl,hv⟩:=hv;have CN:=(F.o.drew.step C J).addN hv F.o.drew.sz;exact .inr ⟨y,D,b2,rfl,(Y8 (CN.b0)),by rw [Yc.o,M]; rfl,CN⟩
 go_wp2_with fail
 go_region_held (fun W=>(kT W w1.heap.size t)) (first | with_reducible assumption | with_reducible exact Vs.o _ | with_reducible exact Wm.o _ _ _ _ _ _ _ _) (first
  | (go_at_call 145; refine HC.o.mono ?_; rintro e j (⟨ch,rfl,hf⟩ | ⟨y,D,b2,rfl,t5,HX⟩); exact⟨rfl,hf⟩; have Vs:xQ (∀ o,(kT ((j.alloc o)) w1.heap.size t)):=(fun o=>(Y8 ((HX.o.2.alloc o).b1))))
  | (go_at_call 123; refine(L7 t ⟨17,⟨#[]⟩,0,0,0,none,0,0,none,0,0,some (aP j.heap.size 0),1,1⟩ _).mono ?_; rintro e I ⟨rfl,A⟩; have z:=Za ((HX.o.2.alloc _).below A); have t6:(kT I w1.heap.size t):=(Y8 (z.o.b1)); have Pl:=Za (Zn (x:=Zj) (z.o.b2)); obtain⟨⟨r0,r1,r2,r3,r4,r5,r6,r7⟩,⟨f0,f1,f2,f3,f4,f5,f6,f7⟩,Yw⟩:=Pl.o; have Wm:xQ (∀ T v1 V v3 v4 v5 Y O,(kT ((L9 I w.heap.size T v1 V v3 v4 v5 Y O)) w1.heap.size t)):=(fun T v1 V v3 v4 v5 Y O=>(Y8 ((Jm Lz T v1 V v3 v4 v5 Y O).trans (z.o.b1)))); clear A))
 all_goals
  go_wp2_with fail;rw [HX.o.1];refine r64 rfl rfl (Wv (x:=wC t j.heap.size) z.o.b2) rfl ⟨Wy z.o.st hp (xR) (wC t j.heap.size),Ve z.o.ps hp (wC t j.heap.size),_,rfl,wC t j.heap.size,rfl,?_⟩;exact((Ko z.o.n0 z.o.b0 (by have:=HX.o.2.sz; omega) (wC t j.heap.size) [] [] ⟨rfl,rfl⟩ ⟨rfl,xZ _,0,.inl rfl⟩ ⟨rfl,xZ _,.inl rfl⟩).put8 (xU _) (wC t j.heap.size)).lower (Nat.le_succ _)
theorem iY (pb tb cap d:Nat) (ts:List Tok)  (ok:Ym ts) (a:Nat) (h3:(Lr.any fun s=>Zg ts a s)=false) (Mk:Zg ts a [112,114,105,110,116]=false) (N:Zg ts a [114,101,97,100]=true) (w:wD) (h:Ps w pb tb cap ts a d) :
  Calls prog 144 #[qP pb] w (Ya pb tb cap ts d w Z6 ((Ze ts (a+1) [40]).go fun _ b=>(Ze ts b [41]).go fun _ b => .inl (Zp 18 [] 0 (Zk ts a).line (Zk ts a).col [] [] [],b))):=by
 have H:=Za h
 have I:=Za ok
 have hp:=h.ltp
 have Y:=Za h3
 have E0:=Za Mk
 have O1:=Za N
 have Tq:=Za (fun w h=>J7 pb tb cap a d ts w h)
 obtain⟨t,T⟩:=xE (Zk ts a)
 rw [<- T] at Tq
 have M2:=Za T
 clear T
 have C0:=Za (U2 h Zj.obj)
 obtain⟨R,hR⟩:∃ R:Pr Ty,R=((Ze ts (a+1) [40]).go fun _ b=>(Ze ts b [41]).go fun _ b => .inl (Zp 18 [] 0 (Zk ts a).line (Zk ts a).col [] [] [],b)):=⟨_,rfl⟩
 rw [<- hR]
 have Yc:=Za hR
 clear h ok hR  h3 Mk N
 go_enter func144,ntmps144
 go_wp2_with fail
 refine(Tq.o _ C0.o.ps).mono ?_
 rintro e w1 ⟨rfl,C⟩
 have C1:=Za (C0.o.below C)
 have C2:=Za (C1.o.alloc (Z3 t))
 clear C
 go_wp2_with fail
 rw [<- M2.o] at Yc
 refine(V5 pb tb cap a _ 3 ts Lr _ _ C2.o.ps.rd (by simp) (by simp)).mono ?_
 rw [Y.o]
 rintro e w2 ⟨rfl,C⟩
 have C3:=Za (C2.o.below C)
 clear C
 go_wp2_with fail
 refine(Ta pb tb cap a d ts [112,114,105,110,116] _ C3.o.ps I.o).mono ?_
 rw [E0.o,if_neg (by simp)]
 rintro e w3 ⟨rfl,j,A⟩
 have C4:=Za (C3.o.step j A)
 clear j A
 go_wp2_with fail
 refine(Ta pb tb cap a d ts [114,101,97,100] _ C4.o.ps I.o).mono ?_
 rw [O1.o,if_pos rfl]
 rintro e w4 ⟨rfl,j,A⟩
 have Z:=Za (C4.o.step j A)
 clear j A
 go_wp2_with fail
 refine(Uy pb tb cap (a+1) d ts [40] _ Z.o.ps I.o).mono ?_
 intro e w5 F
 rcases Yr F with⟨er,li,co,z,rfl,j⟩ | ⟨u1,b1,v1,z,rfl,j,A,hv⟩
 ·have M:xQ (R = .inr (er,li,co)):=by rw [Yc.o,z]; exact rfl
  have V:=Za (Z.o.st.trans j);clear z j F;go_wp2_with fail;exact⟨rfl,V.o,by rw [M.o]⟩
 have Yl:xQ (R=(Ze ts b1 [41]).go fun _ b => .inl (Zp 18 [] 0 t.line t.col [] [] [],b)):=by rw [Yc.o,z]; exact rfl
 have O:=Za ((Z.o.step j A))
 clear z j A F hv
 go_wp2_with fail
 refine(Uy pb tb cap b1 d ts [41] _ O.o.ps I.o).mono ?_
 intro e w6 F
 rcases Yr F with⟨er,li,co,z,rfl,j⟩ | ⟨u2,b2,v2,z,rfl,j,A,hv⟩
 ·have M:xQ (R = .inr (er,li,co)):=by rw [Yl.o,z]; exact rfl
  have V:=Za (O.o.st.trans j);clear z j F;go_wp2_with fail;exact⟨rfl,V.o,by rw [M.o]⟩
 have Zy:xQ (R = .inl (Zp 18 [] 0 t.line t.col [] [] [],b2)):=by rw [Yl.o,z]; exact rfl
 have C7:=Za ((O.o.step j A))
 clear z j A F hv
 obtain⟨⟨k0,k1,k2,k3⟩,_,N4⟩:=Yh C7.o.b0
 go_wp2_with fail
 refine(L7 t ⟨18,⟨#[]⟩,0,0,0,none,0,0,none,0,0,none,0,0⟩ _).mono ?_
 rintro e w7 ⟨rfl,C⟩
 have J:=Za (C7.o.below C)
 clear C
 obtain⟨⟨r0,r1,r2,r3,r4,r5,r6,r7⟩,⟨f0,f1,f2,f3,f4,f5,f6,f7⟩,N⟩:=Zn (x:=Zj) (J.o.b1)
 go_wp2_with fail
 rw [Zy.o]
 refine r64 rfl rfl (Wv (x:=Va 18 [] 0 t) J.o.b1) rfl ⟨Wy J.o.st hp (xR) (Va 18 [] 0 t),Ve J.o.ps hp (Va 18 [] 0 t),_,rfl,Va 18 [] 0 t,rfl,?_⟩
 exact((Iz _ _ 18 [] 0 t).put8 (xU _) (Va 18 [] 0 t)).lower (Nat.le_succ _)
theorem iR (pb tb cap d:Nat) (ts:List Tok) (E:Nat->Pr Ty) (hE:Xs pb tb cap d ts Z6 92 E) (T:Ym ts) (a:Nat) (h3:(Lr.any fun s=>Zg ts a s)=false) (Mk:Zg ts a [112,114,105,110,116]=false) (M:Zg ts a [114,101,97,100]=false) (Zs:Zg ts a [40]=true) (w:wD) (h:Ps w pb tb cap ts a d) :
  Calls prog 144 #[qP pb] w (Ya pb tb cap ts d w Z6 (((Ze ts a [40]).go fun _ b=>(E b).go fun x b=>(Ze ts b [41]).go fun _ b => .inl (x,b)).go fun x b => .inl (x,b))):=by
 have H:=Za h
 have Z:=Za T
 have hp:=h.ltp
 have HI:=Za (fun w h=>nA pb tb cap d ts E hE T a w h)
 have O:=Za h3
 have E0:=Za Mk
 have O1:=Za M
 have I:=Za Zs
 have Tq:=Za (fun w h=>J7 pb tb cap a d ts w h)
 obtain⟨t,N⟩:=xE (Zk ts a)
 rw [<- N] at Tq
 have M2:=Za N
 clear N
 have C0:=Za (U2 h Zj.obj)
 obtain⟨R,Y⟩:∃ R:Pr Ty,R=(((Ze ts a [40]).go fun _ b=>(E b).go fun x b=>(Ze ts b [41]).go fun _ b => .inl (x,b)).go fun x b => .inl (x,b)):=⟨_,rfl⟩
 rw [<- Y]
 have Yc:=Za Y
 clear h T Y hE h3 Mk M Zs
 go_enter func144,ntmps144
 go_wp2_with fail
 refine(Tq.o _ C0.o.ps).mono ?_
 rintro e w1 ⟨rfl,A⟩
 have C1:=Za (C0.o.below A)
 have C2:=Za (C1.o.alloc (Z3 t))
 clear A
 go_wp2_with fail
 refine(V5 pb tb cap a _ 3 ts Lr _ _ C2.o.ps.rd (by simp) (by simp)).mono ?_
 rw [O.o]
 rintro e w2 ⟨rfl,A⟩
 have C3:=Za (C2.o.below A)
 clear A
 go_wp2_with fail
 refine(Ta pb tb cap a d ts [112,114,105,110,116] _ C3.o.ps Z.o).mono ?_
 rw [E0.o,if_neg (by simp)]
 rintro e w3 ⟨rfl,j,z⟩
 have C4:=Za (C3.o.step j z)
 clear j z
 go_wp2_with fail
 refine(Ta pb tb cap a d ts [114,101,97,100] _ C4.o.ps Z.o).mono ?_
 rw [O1.o,if_neg (by simp)]
 rintro e w4 ⟨rfl,j,z⟩
 have C5:=Za (C4.o.step j z)
 clear j z
 go_wp2_with fail
 refine(V5 pb tb cap a _ 1 ts [[40]] _ _ C5.o.ps.rd (by simp) (by simp)).mono ?_
 rw [T0,I.o]
 rintro e w5 ⟨rfl,A⟩
 have J:=Za (C5.o.below A)
 clear A
 go_wp2_with fail
 refine(HI.o _ J.o.ps).mono ?_
 intro e w6 V
 rcases Yr V with⟨er,li,co,C,rfl,j⟩ | ⟨D,b,v,C,rfl,j,z,hv⟩
 ·have HE:xQ (R = .inr (er,li,co)):=by rw [Yc.o,C]; exact rfl
  have HF:=Za (J.o.st.trans j);clear C j V;go_wp2_with fail;exact⟨rfl,HF.o,by rw [HE.o]⟩
 have Yl:xQ (R = .inl (D,b)):=by rw [Yc.o,C]; exact rfl
 obtain⟨x,rfl,hv⟩:=hv
 have F:=Za ((J.o.step j z).addN hv J.o.sz)
 clear C j z V hv
 obtain⟨⟨r0,r1,r2,r3,r4,r5,r6,r7⟩,⟨f0,f1,f2,f3,f4,f5,f6,f7⟩,M⟩:=Zn (x:=Zj) (F.o.b1)
 go_wp2_with fail
 rw [Yl.o]
 refine r64 rfl rfl (Wv (x:=x) F.o.b1) rfl ⟨Wy F.o.st hp (xR) (x),Ve F.o.ps hp (x),_,rfl,x,rfl,?_⟩
 exact((F.o.n0).put8 (xU _) (x)).lower (Nat.le_succ _)
theorem i8 (pb tb cap d:Nat) (ts:List Tok) (K:Nat->Pr Ty) (hK:Xs pb tb cap d ts Yk 106 K) (Y:Ym ts) (a:Nat) (h3:(Lr.any fun s=>Zg ts a s)=false) (Mk:Zg ts a [112,114,105,110,116]=false) (N:Zg ts a [114,101,97,100]=false) (Zs:Zg ts a [40]=false) (Ti:Zg ts a [123]=false) (w:wD) (h:Ps w pb tb cap ts a d) :
  Calls prog 144 #[qP pb] w (Ya pb tb cap ts d w Z6 ((wM ts K ts.length a).go fun x b => .inl (x,b))):=by
 have H:=Za h
 have V:=Za Y
 have hp:=h.ltp
 have HI:=Za (fun w h=>ziw pb tb cap d ts K hK Y a w h)
 have T:=Za h3
 have E0:=Za Mk
 have O1:=Za N
 have I:=Za Zs
 have J:=Za Ti
 have Tq:=Za (fun w h=>J7 pb tb cap a d ts w h)
 obtain⟨t,O⟩:=xE (Zk ts a)
 rw [<- O] at Tq
 have M2:=Za O
 clear O
 have C0:=Za (U2 h Zj.obj)
 obtain⟨R,hR⟩:∃ R:Pr Ty,R=((wM ts K ts.length a).go fun x b => .inl (x,b)):=⟨_,rfl⟩
 rw [<- hR]
 have Yc:=Za hR
 clear h Y hR hK h3 Mk N Zs Ti
 go_enter func144,ntmps144
 go_wp2_with fail
 refine(Tq.o _ C0.o.ps).mono ?_
 rintro e w1 ⟨rfl,A⟩
 have C1:=Za (C0.o.below A)
 have C2:=Za (C1.o.alloc (Z3 t))
 clear A
 go_wp2_with fail
 refine(V5 pb tb cap a _ 3 ts Lr _ _ C2.o.ps.rd (by simp) (by simp)).mono ?_
 rw [T.o]
 rintro e w2 ⟨rfl,A⟩
 have C3:=Za (C2.o.below A)
 clear A
 go_wp2_with fail
 refine(Ta pb tb cap a d ts [112,114,105,110,116] _ C3.o.ps V.o).mono ?_
 rw [E0.o,if_neg (by simp)]
 rintro e w3 ⟨rfl,j,z⟩
 have C4:=Za (C3.o.step j z)
 clear j z
 go_wp2_with fail
 refine(Ta pb tb cap a d ts [114,101,97,100] _ C4.o.ps V.o).mono ?_
 rw [O1.o,if_neg (by simp)]
 rintro e w4 ⟨rfl,j,z⟩
 have C5:=Za (C4.o.step j z)
 clear j z
 go_wp2_with fail
 refine(V5 pb tb cap a _ 1 ts [[40]] _ _ C5.o.ps.rd (by simp) (by simp)).mono ?_
 rw [T0,I.o]
 rintro e w5 ⟨rfl,A⟩
 have C6:=Za (C5.o.below A)
 clear A
 go_wp2_with fail
 refine(Ta pb tb cap a d ts [123] _ C6.o.ps V.o).mono ?_
 rw [J.o,if_neg (by simp)]
 rintro e w6 ⟨rfl,j,z⟩
 have M:=Za (C6.o.step j z)
 clear j z
 go_wp2_with fail
 refine(HI.o _ M.o.ps).mono ?_
 intro e w7 Z
 rcases Yr Z with⟨er,li,co,C,rfl,j⟩ | ⟨D,b,v,C,rfl,j,z,hv⟩
 ·have HE:xQ (R = .inr (er,li,co)):=by rw [Yc.o,C]; exact rfl
  have HF:=Za (M.o.st.trans j);clear C j Z;go_wp2_with fail;exact⟨rfl,HF.o,by rw [HE.o]⟩
 have Yl:xQ (R = .inl (D,b)):=by rw [Yc.o,C]; exact rfl
 obtain⟨x,rfl,hv⟩:=hv
 have F:=Za ((M.o.step j z).addN hv M.o.sz)
 clear C j z Z hv
 obtain⟨⟨r0,r1,r2,r3,r4,r5,r6,r7⟩,⟨f0,f1,f2,f3,f4,f5,f6,f7⟩,N⟩:=Zn (x:=Zj) (F.o.b1)
 go_wp2_with fail
 rw [Yl.o]
 refine r64 rfl rfl (Wv (x:=x) F.o.b1) rfl ⟨Wy F.o.st hp (xR) (x),Ve F.o.ps hp (x),_,rfl,x,rfl,?_⟩
 exact((F.o.n0).put8 (xU _) (x)).lower (Nat.le_succ _)
theorem iQ (pb tb cap d:Nat) (ts:List Tok) (E:Nat->Pr Ty) (hE:Xs pb tb cap d ts Z6 92 E) (ok:Ym ts) (a:Nat) (h3:(Lr.any fun s=>Zg ts a s)=false) (Mk:Zg ts a [112,114,105,110,116]=false) (T:Zg ts a [114,101,97,100]=false) (Zs:Zg ts a [40]=false) (Ti:Zg ts a [123]=true) (w:wD) (h:Ps w pb tb cap ts a d) :
  Calls prog 144 #[qP pb] w (Ya pb tb cap ts d w Z6 ((yO ts E ts.length (a+1)).go fun x b => .inl (uI (Zk ts a) x,b))):=by
 have H:=Za h
 have OK:=Za ok
 have hp:=h.ltp
 have HI:=Za (fun w h=>oL pb tb cap d ts E hE ok (a+1) w h)
 have Hh3:=Za h3
 have E0:=Za Mk
 have O1:=Za T
 have M:=Za Zs
 have N:=Za Ti
 have Tq:=Za (fun w h=>J7 pb tb cap a d ts w h)
 obtain⟨t,V⟩:=xE (Zk ts a)
 rw [<- V] at Tq
 have M2:=Za V
 clear V
 have C0:=Za (U2 h Zj.obj)
 obtain⟨R,hR⟩:∃ R:Pr Ty,R=((yO ts E ts.length (a+1)).go fun x b => .inl (uI (Zk ts a) x,b)):=⟨_,rfl⟩
 rw [<- hR]
 have Yc:=Za hR
 clear h ok hR hE h3 Mk T Zs Ti
 go_enter func144,ntmps144
 go_wp2_with fail
 refine(Tq.o _ C0.o.ps).mono ?_
 rintro e w1 ⟨rfl,z⟩
 have C1:=Za (C0.o.below z)
 have C2:=Za (C1.o.alloc (Z3 t))
 clear z
 go_wp2_with fail
 rw [<- M2.o] at Yc
 refine(V5 pb tb cap a _ 3 ts Lr _ _ C2.o.ps.rd (by simp) (by simp)).mono ?_
 rw [Hh3.o]
 rintro e w2 ⟨rfl,z⟩
 have C3:=Za (C2.o.below z)
 clear z
 go_wp2_with fail
 refine(Ta pb tb cap a d ts [112,114,105,110,116] _ C3.o.ps OK.o).mono ?_
 rw [E0.o,if_neg (by simp)]
 rintro e w3 ⟨rfl,j,A⟩
 have C4:=Za (C3.o.step j A)
 clear j A
 go_wp2_with fail
 refine(Ta pb tb cap a d ts [114,101,97,100] _ C4.o.ps OK.o).mono ?_
 rw [O1.o,if_neg (by simp)]
 rintro e w4 ⟨rfl,j,A⟩
 have C5:=Za (C4.o.step j A)
 clear j A
 go_wp2_with fail
 refine(V5 pb tb cap a _ 1 ts [[40]] _ _ C5.o.ps.rd (by simp) (by simp)).mono ?_
 rw [T0,M.o]
 rintro e w5 ⟨rfl,z⟩
 have C6:=Za (C5.o.below z)
 clear z
 go_wp2_with fail
 refine(Ta pb tb cap a d ts [123] _ C6.o.ps OK.o).mono ?_
 rw [N.o,if_pos rfl]
 rintro e w6 ⟨rfl,j,A⟩
 have F:=Za (C6.o.step j A)
 clear j A
 obtain⟨⟨k0,k1,k2,k3⟩,_,N4⟩:=Yh F.o.b0
 go_wp2_with fail
 have Lz:w1.heap.size≠w.heap.size:=by have:=C1.o.sz; omega
 have Uq:(kT ((w6).drew) w1.heap.size t):=(Y8 (F.o.drew.b0))
 have HC:xQ (Calls prog 147 #[qP pb] (w6).drew fun e I=>(∃ chain,e = .panicked chain/\Ya pb tb cap ts d w Z6 R e I)∨∃ (y:NV) (D:Ty) (b2:Nat),e = .returned (y.val)/\((kT I w1.heap.size t))/\xQ (R = .inl (uI t D,b2)/\Y4 pb tb cap d ts w I b2 [(w1.heap.size,Z3 t),(w.heap.size,Zj.obj)] [(y,D)] [])):=by
  refine(HI.o _ F.o.drew.ps).mono ?_;intro e I Zh;rcases Yr Zh with⟨er,li,co,O,rfl,j⟩ | ⟨D,b2,v,O,rfl,j,A,hv⟩
  ·exact .inl ⟨_,rfl,F.o.drew.st.trans j,by rw [Yc.o,O]; rfl⟩
  obtain⟨y,rfl,hv⟩:=hv;have CN:=(F.o.drew.step j A).addN hv F.o.drew.sz;exact .inr ⟨y,D,b2,rfl,(Y8 (CN.b0)),by rw [Yc.o,O]; rfl,CN⟩
 go_wp2_with fail
 go_region_held (fun W=>(kT W w1.heap.size t)) (first | with_reducible assumption | with_reducible exact Vs.o _ | with_reducible exact Wm.o _ _ _ _ _ _ _ _) (first
  | (go_at_call 147; refine HC.o.mono ?_; rintro e I (⟨ch,rfl,hf⟩ | ⟨y,D,b2,rfl,t5,HX⟩); exact⟨rfl,hf⟩; have Vs:xQ (∀ o,(kT ((I.alloc o)) w1.heap.size t)):=(fun o=>(Y8 ((HX.o.2.alloc o).b1))))
  | (go_at_call 123; refine(L7 t y _).mono ?_; rintro e J ⟨rfl,z⟩; have C:=Za (HX.o.2.below z); have t6:(kT J w1.heap.size t):=(Y8 (C.o.b0)); have Pl:=Za (Zn (x:=Zj) (C.o.b1)); obtain⟨⟨r0,r1,r2,r3,r4,r5,r6,r7⟩,⟨f0,f1,f2,f3,f4,f5,f6,f7⟩,T⟩:=Pl.o; have Wm:xQ (∀ Z v1 v2 v3 v4 v5 v6 Y,(kT ((L9 J w.heap.size Z v1 v2 v3 v4 v5 v6 Y)) w1.heap.size t)):=(fun Z v1 v2 v3 v4 v5 v6 Y=>(Y8 ((Jm Lz Z v1 v2 v3 v4 v5 v6 Y).trans (C.o.b0)))); clear z))
 all_goals
  go_wp2_with fail;rw [HX.o.1];refine r64 rfl rfl (Wv (x:={ y with li:=t.line,co:=t.col }) C.o.b1) rfl ⟨Wy C.o.st hp (xR) ({ y with li:=t.line,co:=t.col }),Ve C.o.ps hp ({ y with li:=t.line,co:=t.col }),_,rfl,{ y with li:=t.line,co:=t.col },rfl,?_⟩;exact((zfl C.o.n0 t).put8 (xU _) ({ y with li:=t.line,co:=t.col })).lower (Nat.le_succ _)
def IntE (_:Nat) (_:wD) (v:vL) (x:Int):Prop:=v=iP x
def Cu (ts:List Tok) (a:Nat):Pr Int:=if 0<=Nv (Zk ts a) Qj then .inl (Nv (Zk ts a) Qj,a+1)else Vj ts 7 a
theorem tag_c (pb tb cap d:Nat) (ts:List Tok) (I:Ym ts) (a:Nat) (w:wD) (h:Ps w pb tb cap ts a d) :
  Calls prog 137 #[qP pb] w (Ya pb tb cap ts d w IntE (Cu ts a)):=by
 have H:=Za h
 have OK:=Za I
 have O:=h.ltp
 have F:=Za (cH pb tb cap a w.heap.size 6 ts Qj w 9 h.rd rfl (by simp [Qj]))
 have T:xQ (0<=Nv (Zk ts a) Qj->a+1<ts.length):=fun hv=>by
  have:=lG ts a Qj;rw [show decide (0<=Nv (Zk ts a) Qj)=true by simpa using hv] at this;obtain⟨s,_,h2⟩:=List.any_eq_true.1 this.symm;exact Xx I.ends h.lt h2
 clear h I
 unfold Cu
 obtain⟨J,z⟩:=xE (Nv (Zk ts a) Qj)
 rw [<- z] at F T ⊢
 clear z
 by_cases A:0<=J
 ·rw [if_pos A]
  have Y:¬ J<0:=by omega
  have B1:=Za (T.o A);clear A;go_enter func137,ntmps137;go_wp2_with fail;refine F.o.mono ?_;rintro e w1 ⟨rfl,j⟩;have P1:=Za (H.o.below j);have C:=Za j;clear j;go_wp2_with fail;refine(Jj pb tb cap a d ts _ P1.o B1.o OK.o.len).mono ?_;rintro e w2 ⟨rfl,V,N⟩;have HP:=Za N;have Zx:=Za ((Zl.of O C.o).trans V);clear V N;go_wp2_with fail;go_ret;exact⟨Zx.o,HP.o,_,rfl,rfl⟩
 ·rw [if_neg A]
  have Y:J<0:=by omega
  clear A;go_enter func137,ntmps137;go_wp2_with fail;refine F.o.mono ?_;rintro e w1 ⟨rfl,j⟩;have P1:=Za (H.o.below j);have C:=Za j;clear j;go_wp2_with fail;refine(yA pb tb cap a d ts _ P1.o 7).mono ?_;rintro e w2 ⟨rfl,M⟩;have Z:=Za (Zz C.o M);clear M;go_wp2_with fail;exact⟨rfl,Zl.of O Z.o,rfl⟩
theorem zbm (pb tb cap d a:Nat) (ts:List Tok) (C:Pr Ty) (N:∀ w,Ps w pb tb cap ts a d->Calls prog 116 #[qP pb] w (Ya pb tb cap ts d w Z6 C)) (Y:Zg ts a [108,101,116]=true) (Z:Ym ts) (w:wD) (h:Ps w pb tb cap ts a d) :
  Calls prog 108 #[qP pb] w (Ya pb tb cap ts d w Z6 (C.go fun x b => .inl (x,b))):=by
 have H:=Za h
 have OK:=Za Z
 have V:=h.ltp
 have HC:=Za N
 have B4:=Za Y
 have M:=Za (U2 h Zj.obj)
 obtain⟨R,I⟩:∃ R:Pr Ty,R=(C.go fun x b => .inl (x,b)):=⟨_,rfl⟩
 rw [<- I]
 have O:=Za I
 clear h Z I N Y
 go_enter func108,ntmps108
 go_wp2_with fail
 refine(V5 pb tb cap a _ 1 ts [[108,101,116]] _ _ M.o.ps.rd (by simp) (by simp)).mono ?_
 rw [T0,B4.o]
 rintro e w1 ⟨rfl,hb⟩
 have F:=Za (M.o.below hb)
 clear hb
 go_wp2_with fail
 refine(HC.o _ F.o.ps).mono ?_
 intro e w2 J
 rcases Yr J with⟨er,li,co,j,rfl,A⟩ | ⟨D,b,v,j,rfl,A,T,hv⟩
 ·have HE:xQ (R = .inr (er,li,co)):=by rw [O.o,j]; exact rfl
  have HF:=Za (F.o.st.trans A);clear j A J;go_wp2_with fail;exact⟨rfl,HF.o,by rw [HE.o]⟩
 have Yl:xQ (R = .inl (D,b)):=by rw [O.o,j]; exact rfl
 obtain⟨x,rfl,hv⟩:=hv
 have z:=Za ((F.o.step A T).addN hv F.o.sz)
 clear j A T J hv
 obtain⟨⟨C,r1,r2,r3,r4,r5,r6,r7⟩,⟨f0,f1,f2,f3,f4,f5,f6,f7⟩,Yw⟩:=Zn (x:=Zj) (z.o.b0)
 go_wp2_with fail
 rw [Yl.o]
 refine r64 rfl rfl (Wv (x:=x) z.o.b0) rfl ⟨Wy z.o.st V (xR) (x),Ve z.o.ps V (x),_,rfl,x,rfl,?_⟩
 exact((z.o.n0).put8 (xU _) (x)).lower (Nat.le_succ _)
theorem zbl (pb tb cap d a:Nat) (ts:List Tok) (F:Pr Ty) (T:∀ w,Ps w pb tb cap ts a d->Calls prog 117 #[qP pb] w (Ya pb tb cap ts d w Z6 F)) (h0:Zg ts a [108,101,116]=false) (N:Zg ts a [105,102]=true) (ok:Ym ts) (w:wD) (h:Ps w pb tb cap ts a d) :
  Calls prog 108 #[qP pb] w (Ya pb tb cap ts d w Z6 (F.go fun x b => .inl (x,b))):=by
 have H:=Za h
 have OK:=Za ok
 have hp:=h.ltp
 have HC:=Za T
 have B4:=Za h0
 have Y5:=Za N
 have O:=Za (U2 h Zj.obj)
 obtain⟨R,J⟩:∃ R:Pr Ty,R=(F.go fun x b => .inl (x,b)):=⟨_,rfl⟩
 rw [<- J]
 have V:=Za J
 clear h ok J T h0 N
 go_enter func108,ntmps108
 go_wp2_with fail
 refine(V5 pb tb cap a _ 1 ts [[108,101,116]] _ _ O.o.ps.rd (by simp) (by simp)).mono ?_
 rw [T0,B4.o]
 rintro e w1 ⟨rfl,A⟩
 have Y:=Za (O.o.below A)
 clear A
 go_wp2_with fail
 refine(V5 pb tb cap a _ 1 ts [[105,102]] _ _ Y.o.ps.rd (by simp) (by simp)).mono ?_
 rw [T0,Y5.o]
 rintro e w2 ⟨rfl,A⟩
 have I:=Za (Y.o.below A)
 clear A
 go_wp2_with fail
 refine(HC.o _ I.o.ps).mono ?_
 intro e w3 M
 rcases Yr M with⟨er,li,co,j,rfl,C⟩ | ⟨D,b,v,j,rfl,C,Z,hv⟩
 ·have HE:xQ (R = .inr (er,li,co)):=by rw [V.o,j]; exact rfl
  have HF:=Za (I.o.st.trans C);clear j C M;go_wp2_with fail;exact⟨rfl,HF.o,by rw [HE.o]⟩
 have Yl:xQ (R = .inl (D,b)):=by rw [V.o,j]; exact rfl
 obtain⟨x,rfl,hv⟩:=hv
 have z:=Za ((I.o.step C Z).addN hv I.o.sz)
 clear j C Z M hv
 obtain⟨⟨F,r1,r2,r3,r4,r5,r6,r7⟩,⟨f0,f1,f2,f3,f4,f5,f6,f7⟩,Yw⟩:=Zn (x:=Zj) (z.o.b0)
 go_wp2_with fail
 rw [Yl.o]
 refine r64 rfl rfl (Wv (x:=x) z.o.b0) rfl ⟨Wy z.o.st hp (xR) (x),Ve z.o.ps hp (x),_,rfl,x,rfl,?_⟩
 exact((z.o.n0).put8 (xU _) (x)).lower (Nat.le_succ _)
theorem zbk (pb tb cap d a:Nat) (ts:List Tok) (F:Pr Ty) (T:∀ w,Ps w pb tb cap ts a d->Calls prog 118 #[qP pb] w (Ya pb tb cap ts d w Z6 F)) (h0:Zg ts a [108,101,116]=false) (N:Zg ts a [105,102]=false) (h2:Zg ts a [102,110]=true) (ok:Ym ts) (w:wD) (h:Ps w pb tb cap ts a d) :
  Calls prog 108 #[qP pb] w (Ya pb tb cap ts d w Z6 (F.go fun x b => .inl (x,b))):=by
 have H:=Za h
 have OK:=Za ok
 have hp:=h.ltp
 have HC:=Za T
 have B4:=Za h0
 have Y5:=Za N
 have Vn:=Za h2
 have O:=Za (U2 h Zj.obj)
 obtain⟨R,J⟩:∃ R:Pr Ty,R=(F.go fun x b => .inl (x,b)):=⟨_,rfl⟩
 rw [<- J]
 have Y:=Za J
 clear h ok J T h0 N h2
 go_enter func108,ntmps108
 go_wp2_with fail
 refine(V5 pb tb cap a _ 1 ts [[108,101,116]] _ _ O.o.ps.rd (by simp) (by simp)).mono ?_
 rw [T0,B4.o]
 rintro e w1 ⟨rfl,j⟩
 have Z:=Za (O.o.below j)
 clear j
 go_wp2_with fail
 refine(V5 pb tb cap a _ 1 ts [[105,102]] _ _ Z.o.ps.rd (by simp) (by simp)).mono ?_
 rw [T0,Y5.o]
 rintro e w2 ⟨rfl,j⟩
 have V:=Za (Z.o.below j)
 clear j
 go_wp2_with fail
 refine(V5 pb tb cap a _ 1 ts [[102,110]] _ _ V.o.ps.rd (by simp) (by simp)).mono ?_
 rw [T0,Vn.o]
 rintro e w3 ⟨rfl,j⟩
 have I:=Za (V.o.below j)
 clear j
 go_wp2_with fail
 refine(HC.o _ I.o.ps).mono ?_
 intro e w4 M
 rcases Yr M with⟨er,li,co,z,rfl,C⟩ | ⟨D,b,v,z,rfl,C,Zc,hv⟩
 ·have HE:xQ (R = .inr (er,li,co)):=by rw [Y.o,z]; exact rfl
  have HF:=Za (I.o.st.trans C);clear z C M;go_wp2_with fail;exact⟨rfl,HF.o,by rw [HE.o]⟩
 have Yl:xQ (R = .inl (D,b)):=by rw [Y.o,z]; exact rfl
 obtain⟨x,rfl,hv⟩:=hv
 have A:=Za ((I.o.step C Zc).addN hv I.o.sz)
 clear z C Zc M hv
 obtain⟨⟨F,r1,r2,r3,r4,r5,r6,r7⟩,⟨f0,f1,f2,f3,f4,f5,f6,f7⟩,Yw⟩:=Zn (x:=Zj) (A.o.b0)
 go_wp2_with fail
 rw [Yl.o]
 refine r64 rfl rfl (Wv (x:=x) A.o.b0) rfl ⟨Wy A.o.st hp (xR) (x),Ve A.o.ps hp (x),_,rfl,x,rfl,?_⟩
 exact((A.o.n0).put8 (xU _) (x)).lower (Nat.le_succ _)
theorem zbn (pb tb cap d a:Nat) (ts:List Tok) (F:Pr Ty) (T:∀ w,Ps w pb tb cap ts a d->Calls prog 119 #[qP pb] w (Ya pb tb cap ts d w Z6 F)) (h0:Zg ts a [108,101,116]=false) (N:Zg ts a [105,102]=false) (h2:Zg ts a [102,110]=false) (ok:Ym ts) (w:wD) (h:Ps w pb tb cap ts a d) :
  Calls prog 108 #[qP pb] w (Ya pb tb cap ts d w Z6 (F.go fun x b => .inl (x,b))):=by
 have H:=Za h
 have OK:=Za ok
 have hp:=h.ltp
 have HC:=Za T
 have B4:=Za h0
 have Y5:=Za N
 have Vn:=Za h2
 have O:=Za (U2 h Zj.obj)
 obtain⟨R,J⟩:∃ R:Pr Ty,R=(F.go fun x b => .inl (x,b)):=⟨_,rfl⟩
 rw [<- J]
 have Y:=Za J
 clear h ok J T h0 N h2
 go_enter func108,ntmps108
 go_wp2_with fail
 refine(V5 pb tb cap a _ 1 ts [[108,101,116]] _ _ O.o.ps.rd (by simp) (by simp)).mono ?_
 rw [T0,B4.o]
 rintro e w1 ⟨rfl,j⟩
 have Z:=Za (O.o.below j)
 clear j
 go_wp2_with fail
 refine(V5 pb tb cap a _ 1 ts [[105,102]] _ _ Z.o.ps.rd (by simp) (by simp)).mono ?_
 rw [T0,Y5.o]
 rintro e w2 ⟨rfl,j⟩
 have V:=Za (Z.o.below j)
 clear j
 go_wp2_with fail
 refine(V5 pb tb cap a _ 1 ts [[102,110]] _ _ V.o.ps.rd (by simp) (by simp)).mono ?_
 rw [T0,Vn.o]
 rintro e w3 ⟨rfl,j⟩
 have I:=Za (V.o.below j)
 clear j
 go_wp2_with fail
 refine(HC.o _ I.o.ps).mono ?_
 intro e w4 M
 rcases Yr M with⟨er,li,co,z,rfl,C⟩ | ⟨D,b,v,z,rfl,C,Zc,hv⟩
 ·have HE:xQ (R = .inr (er,li,co)):=by rw [Y.o,z]; exact rfl
  have HF:=Za (I.o.st.trans C);clear z C M;go_wp2_with fail;exact⟨rfl,HF.o,by rw [HE.o]⟩
 have Yl:xQ (R = .inl (D,b)):=by rw [Y.o,z]; exact rfl
 obtain⟨x,rfl,hv⟩:=hv
 have A:=Za ((I.o.step C Zc).addN hv I.o.sz)
 clear z C Zc M hv
 obtain⟨⟨F,r1,r2,r3,r4,r5,r6,r7⟩,⟨f0,f1,f2,f3,f4,f5,f6,f7⟩,Yw⟩:=Zn (x:=Zj) (A.o.b0)
 go_wp2_with fail
 rw [Yl.o]
 refine r64 rfl rfl (Wv (x:=x) A.o.b0) rfl ⟨Wy A.o.st hp (xR) (x),Ve A.o.ps hp (x),_,rfl,x,rfl,?_⟩
 exact((A.o.n0).put8 (xU _) (x)).lower (Nat.le_succ _)
end
end Go.Proofs.YtoppemkjhhlegaaGreatDoor
