/- Part. -/
import Derived.Deep.DrawnRows
import Derived.Test.YtoppemkjhhlegaaGreatDoorPart3
set_option maxRecDepth 100000
set_option maxHeartbeats 4000000
namespace Go.Proofs.YtoppemkjhhlegaaGreatDoor
open Go.Proofs.Tryz
open Go.RowKit
abbrev Ww:Obj := .cells #[iP 0,sP,nP,nP] 94
theorem prim_c (pb tb cap d:Nat) (ts:List Tok) (K:Nat->Pr Ty) (hg:Xs pb tb cap d ts Yk 106 K)
  (f a:Nat) (hf:ts.length<=a+1+(f+1)) (hf2:f+1<=8193) (w:World) (h:Ps w pb tb cap ts a d) (ok:Ym ts) :
  Calls prog 129 #[qP pb] w (Ya pb tb cap ts d w Yk (Mw ts K (f+1) a)):=by
 have H:=Za h
 have F:=Za ok
 have HG:=Za hg
 have HF:=Za hf
 clear hf
 have HW:=Za (cC pb tb cap a (w.heap.size+1) 5 ts yL (w.alloc Ww) 9 (h.alloc _).rd (by simp) (by simp))
 clear h ok hg
 obtain⟨kv,hkv⟩:=xE (Nv (Zk ts a) yL)
 rw [<- hkv] at HW
 by_cases h0:0<=kv
 ·obtain⟨i,rfl⟩:∃ i:Nat,kv=i:=⟨kv.toNat,by omega⟩
  obtain⟨e1,e2,s,e3⟩:=zfu ts K (f+1) a i hkv.symm;rw [e1];have HN:=Za (Xx F.o.ends H.o.lt e3);clear hkv e1 e3;go_enter func129,z;go_wp2_with fail;refine HW.o.mono ?_;rintro e w1 ⟨rfl,C⟩;have P1:=Za ((H.o.alloc _).below C);have O:=Za (Zz (Zq _ _) C);have I:=Za ((C.block w.heap.size (by simp)).trans (xL w _));clear C;go_wp2_with fail;refine(Jj pb tb cap a d ts _ P1.o HN.o F.o.len).mono ?_
  rintro e w2 ⟨rfl,j,A⟩;have T:=(j.keep _ H.o.ltp (xB I.o)).trans I.o;obtain⟨⟨r0,r1,r2,r3⟩,⟨f0,f1,f2,f3⟩,Yw⟩:=Yh T;have J:=Za T;have N:=Za A;have M:=Za ((Zl.of H.o.ltp O.o).trans j);clear j A T;go_wp2_with fail;refine r94 rfl rfl (set4 J.o _ _ _ _) rfl ⟨Q6 M.o H.o.ltp (xR) _ _ _ _,Jk N.o H.o.ltp _ _ _ _,_,rfl,?_⟩;exact zX _ _ i ⟨#[]⟩ (by rcases(by omega:i=0∨i=1∨i=2∨i=3∨i=4)with rfl | rfl | rfl | rfl | rfl <;> decide) (by decide)
 ·rw [zft ts K (f+1) a (by omega)]
  have hneg:kv<0:=by omega
  clear h0 hkv;unfold bE
  cases hs:Zg ts a [123] with
  | true =>
   rw [if_pos rfl];have HN:=Za (Xx F.o.ends H.o.lt hs);have Uk:=Za hs;clear hs
   cases hfi:B7 ts K (f+1) (a+1)with
   | inr x =>
    obtain⟨er,li,co⟩:=x;have N8:=Za hfi;clear hfi;go_enter func129,z;go_wp2_with fail;refine HW.o.mono ?_;rintro e w1 ⟨rfl,C⟩;have P1:=Za ((H.o.alloc _).below C);have O:=Za (Zz (Zq _ _) C);have I:=Za ((C.block w.heap.size (by simp)).trans (xL w _));clear C;go_wp2_with fail;refine(Ta pb tb cap a d ts [123] w1 P1.o F.o).mono ?_;rw [Uk.o,if_pos rfl];rintro e w2 ⟨rfl,j,A⟩
    have J:=Za ((j.keep _ H.o.ltp (xB I.o)).trans I.o);have N:=Za A;have M:=Za ((Zl.of H.o.ltp O.o).trans j);clear j A;go_wp2_with fail;refine(jF pb tb cap d ts 106 K HG.o f (a+1) (by have:=HF.o; omega) w2 N.o F.o).mono ?_;rw [N8.o];rintro e w3 ⟨j,rfl⟩;have Y:=Za (M.o.trans j);clear j;go_wp2_with fail;exact⟨rfl,Y.o,rfl⟩
   | inl x =>
    obtain⟨l,b⟩:=x;have N8:=Za hfi;obtain⟨Xz,Uo⟩:=mU F.o hfi;have Ny:=Za Uo;clear hfi Uo;go_enter func129,z;go_wp2_with fail;refine HW.o.mono ?_;rintro e w1 ⟨rfl,C⟩;have P1:=Za ((H.o.alloc _).below C);have O:=Za (Zz (Zq _ _) C);have I:=Za ((C.block w.heap.size (by simp)).trans (xL w _));clear C;go_wp2_with fail;refine(Ta pb tb cap a d ts [123] w1 P1.o F.o).mono ?_
    rw [Uk.o,if_pos rfl];rintro e w2 ⟨rfl,j,A⟩;have J:=Za ((j.keep _ H.o.ltp (xB I.o)).trans I.o);have N:=Za A;have M:=Za ((Zl.of H.o.ltp O.o).trans j);clear j A;go_wp2_with fail;refine(jF pb tb cap d ts 106 K HG.o f (a+1) (by have:=HF.o; omega) w2 N.o F.o).mono ?_;rw [N8.o];rintro e w3 ⟨j,A,v,rfl,hv⟩;obtain⟨fa,fc,fa',fc',rfl,ht⟩:=eF hv (by omega) Ny.o;have T:=(j.keep _ H.o.ltp (xB J.o)).trans J.o
    obtain⟨⟨r0,r1,r2,r3⟩,⟨f0,f1,f2,f3⟩,Yw⟩:=Yh T;have Yz:=Za T;have Z:=Za A;have Y:=Za (M.o.trans j);have HT3:=Za ht;have V:=Za (xB J.o);clear j A T ht hv;go_wp2_with fail;refine r94 rfl rfl (set4 Yz.o _ _ _ _) rfl ⟨Q6 Y.o H.o.ltp (xR) _ _ _ _,Jk Z.o H.o.ltp _ _ _ _,_,rfl,?_⟩;exact(HT3.o.set4 V.o _ _ _ _).lower (Nat.le_of_lt V.o)
  | false =>
   rw [if_neg (by simp)];have Uk:=Za hs;clear hs
   cases Wj:Zg ts a [40] with
   | true =>
    rw [if_pos rfl];have HN:=Za (Xx F.o.ends H.o.lt Wj);have yF:=Za Wj;clear Wj
    cases hk:K (a+1)with
    | inr x =>
     obtain⟨er,li,co⟩:=x;have HK:=Za hk;clear hk;go_enter func129,z;go_wp2_with fail;refine HW.o.mono ?_;rintro e w1 ⟨rfl,C⟩;have P1:=Za ((H.o.alloc _).below C);have O:=Za (Zz (Zq _ _) C);have I:=Za ((C.block w.heap.size (by simp)).trans (xL w _));clear C;go_wp2_with fail;refine(Ta pb tb cap a d ts [123] w1 P1.o F.o).mono ?_;rw [Uk.o,if_neg (by simp)];rintro e w2 ⟨rfl,j,A⟩
     have J:=Za ((j.keep _ H.o.ltp (xB I.o)).trans I.o);have N:=Za A;have M:=Za ((Zl.of H.o.ltp O.o).trans j);clear j A;go_wp2_with fail;refine(Ta pb tb cap a d ts [40] w2 N.o F.o).mono ?_;rw [yF.o,if_pos rfl];rintro e w3 ⟨rfl,j,A⟩;have Yz:=Za ((j.keep _ H.o.ltp (xB J.o)).trans J.o);have Z:=Za A;have Y:=Za (M.o.trans j);clear j A;go_wp2_with fail;refine(HG.o.calls (a+1) w3 Z.o).mono ?_
     rw [HK.o];rintro e w4 ⟨j,rfl⟩;have P8:=Za (Y.o.trans j);clear j;go_wp2_with fail;exact⟨rfl,P8.o,rfl⟩
    | inl x =>
     obtain⟨D,b⟩:=x;have HK:=Za hk;clear hk;show Calls _ _ _ _ (Ya pb tb cap ts d w Yk ((Ze ts b [41]).go fun _ a => .inl (D,a)))
     cases hw:Ze ts b [41] with
     | inr x =>
      obtain⟨er,li,co⟩:=x;have Kx:=Za hw;clear hw;go_enter func129,z;go_wp2_with fail;refine HW.o.mono ?_;rintro e w1 ⟨rfl,C⟩;have P1:=Za ((H.o.alloc _).below C);have O:=Za (Zz (Zq _ _) C);have I:=Za ((C.block w.heap.size (by simp)).trans (xL w _));clear C;go_wp2_with fail;refine(Ta pb tb cap a d ts [123] w1 P1.o F.o).mono ?_;rw [Uk.o,if_neg (by simp)];rintro e w2 ⟨rfl,j,A⟩
      have J:=Za ((j.keep _ H.o.ltp (xB I.o)).trans I.o);have N:=Za A;have M:=Za ((Zl.of H.o.ltp O.o).trans j);clear j A;go_wp2_with fail;refine(Ta pb tb cap a d ts [40] w2 N.o F.o).mono ?_;rw [yF.o,if_pos rfl];rintro e w3 ⟨rfl,j,A⟩;have Yz:=Za ((j.keep _ H.o.ltp (xB J.o)).trans J.o);have Z:=Za A;have Y:=Za (M.o.trans j);clear j A;go_wp2_with fail;refine(HG.o.calls (a+1) w3 Z.o).mono ?_
      rw [HK.o];rintro e w4 ⟨j,A,v,rfl,hv⟩;obtain⟨k1,nm1,na1,nl1,nc1,ka1,kl1,kc1,rfl⟩:=hv.cells;have P8:=Za (Y.o.trans j);have Sa:=Za A;clear j A hv;go_wp2_with fail;refine(Uy pb tb cap b d ts [41] _ (Sa.o.alloc _) F.o).mono ?_;rw [Kx.o];rintro e w5 ⟨j,rfl⟩;have Hp:=Za ((P8.o.alloc H.o.ltp _).trans j);clear j;go_wp2_with fail;exact⟨rfl,Hp.o,rfl⟩
     | inl x =>
      obtain⟨u,b'⟩:=x;have Kx:=Za hw;clear hw;go_enter func129,z;go_wp2_with fail;refine HW.o.mono ?_;rintro e w1 ⟨rfl,C⟩;have P1:=Za ((H.o.alloc _).below C);have O:=Za (Zz (Zq _ _) C);have I:=Za ((C.block w.heap.size (by simp)).trans (xL w _));clear C;go_wp2_with fail;refine(Ta pb tb cap a d ts [123] w1 P1.o F.o).mono ?_;rw [Uk.o,if_neg (by simp)];rintro e w2 ⟨rfl,j,A⟩
      have J:=Za ((j.keep _ H.o.ltp (xB I.o)).trans I.o);have N:=Za A;have M:=Za ((Zl.of H.o.ltp O.o).trans j);clear j A;go_wp2_with fail;refine(Ta pb tb cap a d ts [40] w2 N.o F.o).mono ?_;rw [yF.o,if_pos rfl];rintro e w3 ⟨rfl,j,A⟩;have Yz:=Za ((j.keep _ H.o.ltp (xB J.o)).trans J.o);have Z:=Za A;have Y:=Za (M.o.trans j);clear j A;go_wp2_with fail;refine(HG.o.calls (a+1) w3 Z.o).mono ?_
      rw [HK.o];rintro e w4 ⟨j,A,v,rfl,hv⟩;obtain⟨k1,nm1,na1,nl1,nc1,ka1,kl1,kc1,rfl⟩:=hv.cells;have P8:=Za (Y.o.trans j);have Sa:=Za A;have Xn:=Za ((j.keep _ H.o.ltp (xB Yz.o)).trans Yz.o);have HT4:=Za hv;have V:=Za (xT (xB Yz.o) j.size);have HLt3:=Za (xB Yz.o);clear j A hv;go_wp2_with fail;refine(Uy pb tb cap b d ts [41] _ (Sa.o.alloc _) F.o).mono ?_;rw [Kx.o]
      rintro e w5 ⟨j,A,v,rfl,_⟩;have T:=(j.keep _ H.o.ltp (by have:=V.o; simp; omega)).trans ((xA V.o).trans Xn.o);obtain⟨⟨r0,r1,r2,r3⟩,⟨f0,f1,f2,f3⟩,Yw⟩:=Yh T;obtain⟨⟨b0,b1,b2,b3⟩,_,Sw⟩:=Yh ((j.keep w4.heap.size Sa.o.ltp (by simp)).trans (xL w4 _));have Wn:=Za T;have Sb:=Za A;have Hp:=Za ((P8.o.alloc H.o.ltp _).trans j);have HT5:=Za ((HT4.o.alloc _).stay j Z.o.ltp)
      have Z1:¬ w4.heap.size=w.heap.size:=by have:=V.o; omega
      clear j A T;go_wp2_with fail;refine r94 rfl rfl (set4 Wn.o _ _ _ _) rfl ⟨Q6 Hp.o H.o.ltp (xR) _ _ _ _,Jk Sb.o H.o.ltp _ _ _ _,_,rfl,?_⟩;exact(HT5.o.set4 HLt3.o _ _ _ _).lower (Nat.le_of_lt HLt3.o)
   | false =>
    rw [if_neg (by simp)];have yF:=Za Wj;clear Wj
    cases hk:Zu ts a with
    | inr x =>
     obtain⟨er,li,co⟩:=x;have HK:=Za hk;clear hk;go_enter func129,z;go_wp2_with fail;refine HW.o.mono ?_;rintro e w1 ⟨rfl,C⟩;have P1:=Za ((H.o.alloc _).below C);have O:=Za (Zz (Zq _ _) C);have I:=Za ((C.block w.heap.size (by simp)).trans (xL w _));clear C;go_wp2_with fail;refine(Ta pb tb cap a d ts [123] w1 P1.o F.o).mono ?_;rw [Uk.o,if_neg (by simp)];rintro e w2 ⟨rfl,j,A⟩
     have J:=Za ((j.keep _ H.o.ltp (xB I.o)).trans I.o);have N:=Za A;have M:=Za ((Zl.of H.o.ltp O.o).trans j);clear j A;go_wp2_with fail;refine(Ta pb tb cap a d ts [40] w2 N.o F.o).mono ?_;rw [yF.o,if_neg (by simp)];rintro e w3 ⟨rfl,j,A⟩;have Yz:=Za ((j.keep _ H.o.ltp (xB J.o)).trans J.o);have Z:=Za A;have Y:=Za (M.o.trans j);clear j A;go_wp2_with fail;refine(Dx pb tb cap a d ts w3 Z.o F.o).mono ?_
     rw [HK.o];rintro e w4 ⟨j,rfl⟩;have P8:=Za (Y.o.trans j);clear j;go_wp2_with fail;exact⟨rfl,P8.o,rfl⟩
    | inl x =>
     obtain⟨s,b⟩:=x;have HK:=Za hk;have Gz:=Za (show s.length<=70000 from dF hk ▸ F.o.txt a);clear hk;go_enter func129,z;go_wp2_with fail;refine HW.o.mono ?_;rintro e w1 ⟨rfl,C⟩;have P1:=Za ((H.o.alloc _).below C);have O:=Za (Zz (Zq _ _) C);have I:=Za ((C.block w.heap.size (by simp)).trans (xL w _));clear C;go_wp2_with fail;refine(Ta pb tb cap a d ts [123] w1 P1.o F.o).mono ?_
     rw [Uk.o,if_neg (by simp)];rintro e w2 ⟨rfl,j,A⟩;have J:=Za ((j.keep _ H.o.ltp (xB I.o)).trans I.o);have N:=Za A;have M:=Za ((Zl.of H.o.ltp O.o).trans j);clear j A;go_wp2_with fail;refine(Ta pb tb cap a d ts [40] w2 N.o F.o).mono ?_;rw [yF.o,if_neg (by simp)];rintro e w3 ⟨rfl,j,A⟩;have Yz:=Za ((j.keep _ H.o.ltp (xB J.o)).trans J.o);have Z:=Za A;have Y:=Za (M.o.trans j)
     clear j A;go_wp2_with fail;refine(Dx pb tb cap a d ts w3 Z.o F.o).mono ?_;rw [HK.o];rintro e w4 ⟨j,A,v,rfl,rfl⟩;have T:=(j.keep _ H.o.ltp (xB Yz.o)).trans Yz.o;obtain⟨⟨r0,r1,r2,r3⟩,⟨f0,f1,f2,f3⟩,Yw⟩:=Yh T;have Xn:=Za T;have Sa:=Za A;have P8:=Za (Y.o.trans j);clear j A T;go_wp2_with fail;refine r94 rfl rfl (set4 Xn.o _ _ _ _) rfl ⟨Q6 P8.o H.o.ltp (xR) _ _ _ _,Jk Sa.o H.o.ltp _ _ _ _,_,rfl,?_⟩
     exact zX _ _ 8 ⟨s.toArray⟩ (by decide) (by have:=Gz.o; unfold reachBytes; show s.toArray.size<=_; simp; omega)
section
attribute [local go_sem ↓] Go.wp_at_zero Go.wp_at_succ
section
variable {ts : List Tok} {K : Nat -> Pr Ty} {f a b : Nat} {l : List Ty} {D : Ty}
theorem cU {e:Int×Nat×Nat} (h:Z9 ts (Mw ts K f) [124] f a = .inr e):Jv ts K f a = .inr e:=by unfold Jv; rw [h]; rfl
theorem cZ (h:Z9 ts (Mw ts K f) [124] f a = .inl ([D],b)):Jv ts K f a = .inl (D,b):=by unfold Jv; rw [h]; rfl
theorem cW (h:Z9 ts (Mw ts K f) [124] f a = .inl (l,b)) (j:l.length≠1):Jv ts K f a = .inl (Y7 7 [] [] l,b):=by
 unfold Jv
 rw [h]
 match l,j with
 | [],_=>rfl
 | [_],j=>exact absurd rfl j
 | _ :: _ :: _,_=>rfl
end
theorem alt_c (pb tb cap d:Nat) (ts:List Tok) (K:Nat->Pr Ty) (hg:Xs pb tb cap d ts Yk 106 K)
  (f a:Nat) (hf:f+1=ts.length) (w:World) (h:Ps w pb tb cap ts a d) (J:Ym ts) :
  Calls prog 122 #[qP pb] w (Ya pb tb cap ts d w Yk (Jv ts K (f+1) a)):=by
 have H:=Za h
 have OK:=Za J
 have HRd:xQ (Xs pb tb cap d ts Yk 129 (Mw ts K (f+1))):=⟨fun a w h=>prim_c pb tb cap d ts K hg f a (by omega) (by have:=J.len; omega) w h J,zfr pb,fun a x b hx=>sH hg.up hx⟩
 have N:=Za (fS pb tb cap d ts [124] _ _ HRd.o f a (by omega) (w.alloc Ww) (h.alloc _) J)
 clear h J hg
 cases hm:Z9 ts (Mw ts K (f+1)) [124] (f+1) a with
 | inr x =>
  obtain⟨er,li,co⟩:=x;rw [cU hm];rw [hm] at N;clear hm;go_enter func122,j;go_wp2_with fail;refine N.o.mono ?_;rintro e w1 ⟨z,rfl⟩;have F:=Za ((Zl.of H.o.ltp (Zq _ _)).trans z);clear z;go_wp2_with fail;exact⟨rfl,F.o,rfl⟩
 | inl x =>
  obtain⟨l,b⟩:=x;have On:=Za (Cm _ hm);have HNe:=Za (zdq hm);rw [hm] at N;by_cases O:l.length=1
  ·obtain⟨D,rfl⟩:∃ D,l=[D]:=List.length_eq_one_iff.1 O
   rw [cZ hm];clear O hm;go_enter func122,j;go_wp2_with fail;refine N.o.mono ?_;rintro e w1 ⟨z,M,v,rfl,cs,hv⟩;obtain⟨T,cv,m,rfl,_,C⟩:=Ek hv;obtain⟨kb,ko,k1,Z,na1,Y,nc1,ka1,V,kc1,rfl,Vt,q0,q1,q2,q3,hT⟩:=zci C (i:=0) (by simp);have I:=Za ((z.keep _ H.o.ltp (by simp)).trans (xL w _));obtain⟨⟨r0,r1,r2,r3⟩,⟨f0,f1,f2,f3⟩,Yw⟩:=Yh I.o
   have F:=Za ((Zl.of H.o.ltp (Zq _ _)).trans z);have HP:=Za M
   have HT:xQ (Yk (w.heap.size+1) w1 (.agg #[iP k1,.string Z,.slice na1 Y nc1,.slice ka1 V kc1]) D):=by
    refine⟨m,?_⟩
    simpa using hT
   simp only [Nat.zero_mul,Nat.add_zero] at q0 q1 q2 q3;have Xz:([D]:List Ty).length=1:=rfl;clear z M hv C hT;go_wp2_with fail;refine r94 rfl rfl (set4 I.o _ _ _ _) rfl ⟨Q6 F.o H.o.ltp (xR) _ _ _ _,Jk HP.o H.o.ltp _ _ _ _,_,rfl,?_⟩;exact(HT.o.set4 (xU _) _ _ _ _).lower (Nat.le_succ _)
  ·have Xz:((l.length:Int) == 1)=false:=by simp; omega
   have A:xQ (l.length<=8193):=by have:=On.o; have:=OK.o.len; show _<=_; omega
   rw [cW hm O];clear O hm;go_enter func122,j;go_wp2_with fail;refine N.o.mono ?_;rintro e w1 ⟨z,M,v,rfl,cs,hv⟩;obtain⟨T,cv,m,rfl,hcv,C⟩:=Ek hv;have I:=Za ((z.keep _ H.o.ltp (by simp)).trans (xL w _));obtain⟨⟨r0,r1,r2,r3⟩,⟨f0,f1,f2,f3⟩,Yw⟩:=Yh I.o;have F:=Za ((Zl.of H.o.ltp (Zq _ _)).trans z);have HP:=Za M
   have HT:xQ (Yk (w.heap.size+1) w1 (.agg #[iP 7,sP,nP,.slice T l.length cv]) (Y7 7 [] [] l)) :=
    ⟨m+1,7,⟨#[]⟩,none,0,T,cv,[],l,rfl,rfl,by decide,by decide,(fun _ h=>nomatch h),⟨xR,xZ _⟩,⟨hcv,(by have:=A.o; unfold reachBytes; omega)⟩,.inl rfl,by simpa using C⟩
   clear z M hv C;go_wp2_with fail;refine r94 rfl rfl (set4 I.o _ _ _ _) rfl ⟨Q6 F.o H.o.ltp (xR) _ _ _ _,Jk HP.o H.o.ltp _ _ _ _,_,rfl,?_⟩;exact(HT.o.set4 (xU _) _ _ _ _).lower (Nat.le_succ _)
theorem Fo {α β:Type} (x:α) (a:Nat) (f:α->Nat->Pr β):Pr.go (.inl (x,a)) f=f x a:=rfl
theorem sG {α β:Type} (e:Int×Nat×Nat) (f:α->Nat->Pr β):Pr.go (.inr e:Pr α) f = .inr e:=rfl
abbrev Fv (W:World) (b:Nat) (k:Int) (nm:bA) (na:oA) (nl nc:Nat) (ka:oA) (kl kc:Nat):Prop :=
 W.cell? (aP b 0)=some (iP k)/\W.cell? (aP b 1)=some (.string nm)/\W.cell? (aP b 2)=some (.slice na nl nc)/\W.cell? (aP b 3)=some (.slice ka kl kc)
section
variable {W : World} {b c : Nat} {k : Int} {nm : bA} {na : oA} {nl nc : Nat} {ka : oA} {kl kc : Nat}
theorem Fv.alloc (h:Fv W b k nm na nl nc ka kl kc) (A:b<W.heap.size) (o:Obj):Fv (W.alloc o) b k nm na nl nc ka kl kc:=by
 have z:∀ j,(W.alloc o).cell? (aP b j)=W.cell? (aP b j):=fun j=>World.cell?_of_block (w:=W) (a:=aP b j) (xA A)
 exact⟨(z 0).trans h.1,(z 1).trans h.2.1,(z 2).trans h.2.2.1,(z 3).trans h.2.2.2⟩
theorem Fv.set4 (h:Fv W b k nm na nl nc ka kl kc) (I:b≠c) (A F H C:Value):Fv ((((W.setCell (aP c 0) A).setCell (aP c 1) F).setCell (aP c 2) H).setCell (aP c 3) C) b k nm na nl nc ka kl kc:=by
 have z:∀ j,((((W.setCell (aP c 0) A).setCell (aP c 1) F).setCell (aP c 2) H).setCell (aP c 3) C).cell? (aP b j)=W.cell? (aP b j):=fun j=>World.cell?_of_block (w:=W) (a:=aP b j) (Q1 I _ _ _ _)
 exact⟨(z 0).trans h.1,(z 1).trans h.2.1,(z 2).trans h.2.2.1,(z 3).trans h.2.2.2⟩
end
def lU (W:World) (b:Nat):Prop:=(c4 W b (iP 0) sP nP nP) /\
 (W.frozen? (aP b 0)=false/\W.frozen? (aP b 1)=false/\W.frozen? (aP b 2)=false/\W.frozen? (aP b 3)=false)/\b<W.heap.size
theorem zeroT {W:World} {b:Nat} (h:W.heap[b]?=some Ww):lU W b:=Yh h
theorem zjx {lo:Nat} {w:World} {c1 c2:List Value} {D1 D2:Ty} (z:Yk lo w (.agg c1.toArray) D1) (j:Yk lo w (.agg c2.toArray) D2) (I:c1.length=4) (J:c2.length=4) (M:lo<=w.heap.size) :
  Yk lo (w.alloc (.cells (c1 ++ c2).toArray 94)) (.agg #[iP 6,sP,nP,lP w.heap.size 2 2]) (Y7 6 [] [] [D1,D2]):=by
 obtain⟨C,z⟩:=z
 obtain⟨A,j⟩:=j
 have F:∀ {v D m},K0 w lo m v D->K0 (w.alloc (.cells (c1 ++ c2).toArray 94)) lo m v D:=fun h=>pZ h (by simp) fun i _ H=>xA H
 have N:=F (Rf z (Nat.le_max_left C A))
 have O:=F (Rf j (Nat.le_max_right C A))
 refine⟨max C A+1,6,⟨#[]⟩,none,0,some (aP w.heap.size 0),2,[],[D1,D2],rfl,rfl,by decide,by decide,(fun _ h=>nomatch h),⟨xR,xZ _⟩,⟨xR,(by show 2<=_; decide)⟩,.inl rfl,.inr ⟨w.heap.size,0,rfl,M,⟨_,_,xL _ _⟩,fun i T=>?_⟩⟩
 match c1,I,c2,J with
 | [x0,x1,x2,x3],_,[y0,y1,y2,y3],_ =>
  match i,T with
  | 0,_=>exact⟨x0,x1,x2,x3,by rw [cell_of_row _ _ _ _ _ _ (xL w _)]; rfl,by rw [cell_of_row _ _ _ _ _ _ (xL w _)]; rfl,by rw [cell_of_row _ _ _ _ _ _ (xL w _)]; rfl,by rw [cell_of_row _ _ _ _ _ _ (xL w _)]; rfl,N⟩
  | 1,_=>exact⟨y0,y1,y2,y3,by rw [cell_of_row _ _ _ _ _ _ (xL w _)]; rfl,by rw [cell_of_row _ _ _ _ _ _ (xL w _)]; rfl,by rw [cell_of_row _ _ _ _ _ _ (xL w _)]; rfl,by rw [cell_of_row _ _ _ _ _ _ (xL w _)]; rfl,O⟩
theorem iC (pb tb cap d n:Nat) (ts:List Tok) (ih:∀ a w,Ps w pb tb cap ts a (d+1)->Calls prog 106 #[qP pb] w (Ya pb tb cap ts (d+1) w Yk (Wg ts ts.length n (d+1) a)))
  (a:Nat) (w:World) (h:Ps w pb tb cap ts a (d+1)) (ok:Ym ts) :
  Calls prog 115 #[qP pb] w (Ya pb tb cap ts (d+1) w Yk ((Jv ts (Wg ts ts.length n (d+1)) ts.length a).go fun t a=>if Zg ts a [45,62] then(Wg ts ts.length n (d+1) (a+1)).go fun r a => .inl (Y7 6 [] [] [t,r],a)else .inl (t,a))):=by
 have H:=Za h
 have OK:=Za ok
 have HI:=Za ih
 obtain⟨f,hf⟩:∃ f,f+1=ts.length:=⟨ts.length - 1,by have:=ok.pos; omega⟩
 have HA:=Za (alt_c pb tb cap (d+1) ts (Wg ts ts.length n (d+1)) ⟨ih,fC pb,fun a x b hx=>zJ hx⟩ f a hf (w.alloc Ww) (h.alloc _) ok)
 rw [hf] at HA
 obtain⟨R,hR⟩:=xE (((Jv ts (Wg ts ts.length n (d+1)) ts.length a).go fun t a=>if Zg ts a [45,62] then(Wg ts ts.length n (d+1) (a+1)).go fun r a => .inl (Y7 6 [] [] [t,r],a)else .inl (t,a)))
 rw [<- hR]
 have V8:=Za hR
 clear h ok ih hR
 go_enter func115,ntmps115
 go_wp2_with fail
 refine HA.o.mono ?_
 rintro e w1 ⟨N,Zh⟩
 have Zx:=Za ((Zl.of H.o.ltp (Zq _ _)).trans N)
 have HR:=Za ((N.keep _ H.o.ltp (by simp)).trans (xL w _))
 clear N
 rcases hA:Jv ts (Wg ts ts.length n (d+1)) ts.length a with⟨D,b⟩ | ⟨er,li,co⟩
 case inr =>
  rw [hA] at Zh
  have HE:xQ (R = .inr (er,li,co)):=by show _=_; simp only [V8.o,hA,sG]
  subst Zh;clear hA;go_wp2_with fail;exact⟨rfl,Zx.o,by rw [HE.o]⟩
 rw [hA] at Zh
 obtain⟨Y,v,rfl,hv⟩:=Zh
 obtain⟨k1,j,J,M,I,F,z,A,rfl⟩:=hv.cells
 have HRA:xQ (R=if Zg ts b [45,62] then(Wg ts ts.length n (d+1) (b+1)).go fun r a => .inl (Y7 6 [] [] [D,r],a)else .inl (D,b)):=by show _=_; simp only [V8.o,hA,Fo]
 have HP:=Za Y
 have HT:=Za hv
 clear Y hv hA V8
 go_wp2_with fail
 refine(Ta pb tb cap b (d+1) ts [45,62] _ (HP.o.alloc _) OK.o).mono ?_
 rintro e w2 ⟨rfl,N,Y⟩
 have Zy:=Za ((N.keep _ H.o.ltp (by have:=xB HR.o; simp; omega)).trans ((xA (xB HR.o)).trans HR.o))
 have Ri:=Za ((Zx.o.alloc H.o.ltp _).trans N)
 have HT2:=Za ((HT.o.alloc _).stay N (by have:=H.o.ltp; simp; omega))
 have O:=Za ((N.keep w1.heap.size HP.o.ltp (by simp)).trans (xL w1 _))
 clear N
 cases hs:Zg ts b [45,62] with
 | false =>
  rw [hs,if_neg (by simp)] at Y;have Gw:=Za Y
  have HE:xQ (R = .inl (D,b)):=by rw [HRA.o,if_neg (by simp [hs])]; exact rfl
  obtain⟨⟨r0,r1,r2,r3⟩,⟨f0,f1,f2,f3⟩,Yw⟩:=Yh Zy.o;obtain⟨⟨b0,b1,b2,b3⟩,_,Sw⟩:=Yh O.o
  have Z1:¬ w1.heap.size=w.heap.size:=by have:=xB HR.o; omega
  clear Y hs;go_wp2_with fail;rw [HE.o];refine r94 rfl rfl (set4 Zy.o _ _ _ _) rfl ⟨Q6 Ri.o H.o.ltp (xR) _ _ _ _,Jk Gw.o H.o.ltp _ _ _ _,_,rfl,?_⟩;exact(HT2.o.set4 (by simp) _ _ _ _).lower (by simp)
 | true =>
  rw [hs,if_pos rfl] at Y;have Gw:=Za Y
  have HRB:xQ (R=(Wg ts ts.length n (d+1) (b+1)).go fun r a => .inl (Y7 6 [] [] [D,r],a)):=by rw [HRA.o,if_pos hs]; exact rfl
  have HAft:xQ (∀ wa C,wa.heap=w2.heap->Zl pb wa C->Fv C w1.heap.size k1 j J M I F z A/\C.heap[w.heap.size]?=some Ww/\Yk (w.heap.size+1) C (.agg #[iP k1,.string j,.slice J M I,.slice F z A]) D):=by
   intro wa C e hs;have hl:=xB O.o;have Uo:=xB Zy.o;refine⟨(Yh ((hs.keep w1.heap.size HP.o.ltp (by rw [e]; exact hl)).trans (by rw [e]; exact O.o))).1,(hs.keep w.heap.size H.o.ltp (by rw [e]; exact Uo)).trans (by rw [e]; exact Zy.o),?_⟩
   have ht:Yk (w.heap.size+1) wa (.agg #[iP k1,.string j,.slice J M I,.slice F z A]) D:=(by simpa using HT2.o:Yk (w.heap.size+1) w2 _ D).keep (by rw [e]; exact xR) fun i _ _=>by rw [e]
   exact ht.stay hs (by have:=H.o.ltp; omega)
  have Uq:Fv w2.drew w1.heap.size k1 j J M I F z A:=(Yh O.o).1
  have HC:xQ (Calls prog 106 #[qP pb] w2.drew fun e C=>(∃ chain,e = .panicked chain/\Ya pb tb cap ts (d+1) w Yk R e C) ∨
    ∃ D2 b2 k4 nm4 na4 Z T V kl4 kc4,e = .returned (.agg #[iP k4,.string nm4,.slice na4 Z T,.slice V kl4 kc4])/\Fv C w1.heap.size k1 j J M I F z A/\lU C w.heap.size/\xQ (∀ o,Fv (C.alloc o) w1.heap.size k1 j J M I F z A)/\xQ (∀ o x0 x1 x2 x3,Fv (((((C.setCell (aP w.heap.size 0) x0).setCell (aP w.heap.size 1) x1).setCell (aP w.heap.size 2) x2).setCell (aP w.heap.size 3) x3).alloc o) w1.heap.size k1 j J M I F z A)/\xQ (R = .inl (Y7 6 [] [] [D,D2],b2)/\Zl pb w C/\Ps C pb tb cap ts b2 (d+1) /\
     C.heap[w.heap.size]?=some Ww/\Yk (w.heap.size+1) C (.agg #[iP k1,.string j,.slice J M I,.slice F z A]) D/\Yk (w.heap.size+1) C (.agg #[iP k4,.string nm4,.slice na4 Z T,.slice V kl4 kc4]) D2)):=by
   refine(HI.o (b+1) w2.drew Gw.o.drew).mono ?_;rintro e C ⟨N,Zh⟩;have Dq:=Ri.o.drew.trans N;obtain⟨g1,g2,g3⟩:=HAft.o w2.drew C (Eq.refl w2.heap) N;rcases hk:Wg ts ts.length n (d+1) (b+1)with⟨D2,b2⟩ | ⟨er,li,co⟩
   ·rw [hk] at Zh
    obtain⟨Y,v,rfl,hv⟩:=Zh;obtain⟨k4,nm4,na4,Z,T,V,kl4,kc4,rfl⟩:=hv.cells;exact .inr ⟨D2,b2,_,_,_,_,_,_,_,_,rfl,g1,zeroT g2,(fun o=>g1.alloc (xT (xB O.o) N.size) o),(fun o x0 x1 x2 x3=>(g1.set4 (by have:=xB HR.o; omega) x0 x1 x2 x3).alloc (by rw [Ak]; exact xT (xB O.o) N.size) o),by rw [HRB.o,hk]; rfl,Dq,Y,g2,g3,hv.lower (xB Zy.o)⟩
   ·rw [hk] at Zh
    subst Zh;exact .inl ⟨_,rfl,Dq,by rw [HRB.o,hk]; rfl⟩
  clear Y hs;unfold Fv at Uq
  have Z1:¬ w1.heap.size=w.heap.size:=by have:=xB HR.o; omega
  have hne':¬ w.heap.size=w1.heap.size:=by have:=xB HR.o; omega
  go_wp2_with fail
  go_region_held (fun W=>c4 W w1.heap.size (iP k1) (.string j) (.slice J M I) (.slice F z A)) (first | with_reducible assumption | with_reducible exact Vs.o _ | with_reducible exact Wm.o _ _ _ _ _) (first
   | (go_at_call 106; refine HC.o.mono ?_; rintro e C (⟨ch,rfl,hf⟩ | ⟨D2,b2,k4,nm4,na4,Z,T,V,kl4,kc4,rfl,t5,t6,Vs,Wm,HX⟩); exact⟨rfl,hf⟩; unfold Fv at t5; obtain⟨⟨r0,r1,r2,r3⟩,⟨f0,f1,f2,f3⟩,hl4⟩:=t6))
  all_goals
   go_wp2_with fail;obtain⟨e1,e2,e3,e4,e5,e6⟩:=HX.o;rw [e1];have Zt:w.heap.size<C.heap.size:=xB e4;refine r94 rfl rfl ((xA (by rw [Ak]; exact Zt)).trans (set4 e4 _ _ _ _)) rfl ⟨(Q6 e2 H.o.ltp (xR) _ _ _ _).alloc H.o.ltp _,(Jk e3 H.o.ltp _ _ _ _).alloc _,_,rfl,?_⟩;have hf:=zjx (c1:=[iP k1,.string j,.slice J M I,.slice F z A]) (c2:=[iP k4,.string nm4,.slice na4 Z T,.slice V kl4 kc4]) (e5.set4 (b:=w.heap.size) (xU _) (iP 6) sP nP (lP C.heap.size 2 2)) (e6.set4 (xU _) _ _ _ _) rfl rfl (by rw [Ak]; exact Zt)
   rw [Ak] at hf;exact hf.lower (Nat.le_succ _)
theorem zkx (pb tb cap a d g:Nat) (ts:List Tok) (r:Pr Ty) (hd:d<100) (Y:∀ w,Ps w pb tb cap ts a (d+1)->Calls prog g #[qP pb] w (Ya pb tb cap ts (d+1) w Yk r)) (U4:Lh g pb)
  (w:World) (h:Ps w pb tb cap ts a d) :
  Calls prog 114 #[qP pb,.func (.func g) #[] #[]] w (Ya pb tb cap ts d w Yk r):=by
 have H:=Za h
 have HG:=Za Y
 have z:=h.ltp
 obtain⟨c0,c1,c2⟩:=h.cells
 have T:=h.fz 2
 have Tj:((d:Int) == 100)=false:=by simp; omega
 clear h Y
 go_enter func114,ntmps114
 go_wp2_with fail
 rw [show((d:Int)+1)=((d+1:Nat):Int) by omega]
 refine(HG.o _ ((H.o.setDeep (d+1)).alloc _)).mono ?_
 rintro e w1 ⟨I,M⟩
 have N:xQ (Zl pb w w1):=(((Zl.refl pb w).set 2 _).alloc z _).trans I
 have O:=Za ((I.keep w.heap.size z (by simp [World.setCell])).trans (gC w _ _ _))
 have C:xQ (∀ x,Ya pb tb cap ts (d+1) ((w.setCell (aP pb 2) (iP ((d+1:Nat):Int))).alloc Ww) Yk (.inl x) e w1->Ps w1 pb tb cap ts x.2 (d+1)/\∃ v,e = .returned v/\Yk (w.heap.size+1) w1 v x.1):=by
  rintro⟨x,b⟩ ⟨_,h1,v,Z,J⟩;refine⟨h1,v,Z,?_⟩
  have:((w.setCell (aP pb 2) (iP ((d+1:Nat):Int))).alloc Ww).heap.size=w.heap.size+1:=by simp [World.setCell]
  rw [this] at J;exact J
 have j:xQ (Ya pb tb cap ts (d+1) ((w.setCell (aP pb 2) (iP ((d+1:Nat):Int))).alloc Ww) Yk r e w1):=⟨I,M⟩
 clear I M
 rcases r with⟨D,b⟩ | ⟨er,li,co⟩
 case inr =>
  obtain⟨_,rfl⟩:=j.o;go_wp2_with fail;exact⟨rfl,N.o,rfl⟩
 obtain⟨V,v,rfl,hv⟩:=C.o _ j.o
 obtain⟨k1,nm1,na1,nl1,nc1,ka1,kl1,kc1,rfl⟩:=hv.cells
 have F:=Za V
 have HT:=Za hv
 clear V hv j C c0 c1 c2 T
 obtain⟨c0,c1,c2⟩:=F.o.cells
 have T:=F.o.fz 2
 have Mk:=F.o.ltp
 obtain⟨⟨r0,r1,r2,r3⟩,⟨f0,f1,f2,f3⟩,Yw⟩:=Yh O.o
 have hpw:¬ pb=w.heap.size:=by omega
 have A:¬ w.heap.size=pb:=by omega
 have Z1:¬ w1.heap.size=w.heap.size:=by omega
 have hne':¬ w1.heap.size=pb:=by omega
 go_wp2_with fail
 refine r94 rfl rfl ((xA (by rw [Ak,Yg]; exact Yw)).trans (set4 ((xH A).trans O.o) _ _ _ _)) rfl ⟨(Q6 (N.o.set 2 _) z (xR) _ _ _ _).alloc z _,(Jk (F.o.setDeep d) z _ _ _ _).alloc _,_,rfl,?_⟩
 exact(((HT.o.set1 (by omega) _ _).set4 (xU _) _ _ _ _).alloc _).lower (Nat.le_succ _)
theorem zky (pb tb cap a g:Nat) (ts:List Tok) (w:World) (h:Ps w pb tb cap ts a 100) :
  Calls prog 114 #[qP pb,.func (.func g) #[] #[]] w (Ya pb tb cap ts 100 w Yk (Vj ts 6 a)):=by
 have H:=Za h
 have A:=h.ltp
 obtain⟨c0,c1,c2⟩:=h.cells
 clear h
 go_enter func114,ntmps114
 go_wp2_with fail
 refine(yA pb tb cap a 100 ts _ (H.o.alloc _) 6).mono ?_
 rintro e w2 ⟨rfl,j⟩
 have z:=Za (Zz (Zq _ _) j)
 clear j
 go_wp2_with fail
 exact⟨rfl,Zl.of A z.o,rfl⟩
theorem iD (pb:Nat):Lh 115 pb:=fun w=>K8 func115 (by kernel_rfl) (by kernel_rfl) _ w
theorem jX (pb tb cap d:Nat) (ts:List Tok) (r:Pr Ty) (w:World) (F:∀ w1,Below w.heap.size w w1->Calls prog 114 #[qP pb,.func (.func 115) #[] #[]] w1 (Ya pb tb cap ts d w1 Yk r)) (h:pb<w.heap.size) :
  Calls prog 106 #[qP pb] w (Ya pb tb cap ts d w Yk r):=by
 have M:=Za F
 clear F
 go_enter func106,ntmps106
 go_wp2_with fail
 refine(M.o _ (Zq _ _)).mono ?_
 rintro e w1 ⟨j,z⟩
 have A:=Za ((Zl.of h (Zq _ _)).trans j)
 have C:=Za ((j.keep _ h (by simp)).trans (xL w _))
 clear j
 rcases r with⟨D,b⟩ | ⟨er,li,co⟩
 case inr =>
  subst z;go_wp2_with fail;exact⟨rfl,A.o,rfl⟩
 obtain⟨H,v,rfl,hv⟩:=z
 obtain⟨k1,nm1,na1,nl1,nc1,ka1,kl1,kc1,rfl⟩:=hv.cells
 have I:=Za H
 have J:=Za hv
 obtain⟨⟨r0,r1,r2,r3⟩,⟨f0,f1,f2,f3⟩,Yw⟩:=Yh C.o
 clear H hv
 go_wp2_with fail
 refine r94 rfl rfl (set4 C.o _ _ _ _) rfl ⟨Q6 A.o h (xR) _ _ _ _,Jk I.o h _ _ _ _,_,rfl,?_⟩
 exact(J.o.set4 (by simp) _ _ _ _).lower (by simp)
theorem fB (pb tb cap:Nat) (ts:List Tok) (A:Ym ts):∀ (n d a:Nat) (w:World),d+n=101->d<=100->Ps w pb tb cap ts a d ->
  Calls prog 106 #[qP pb] w (Ya pb tb cap ts d w Yk (Wg ts ts.length n d a))
 | 0,d,_,_,h1,z,_=>absurd h1 (by omega)
 | n+1,d,a,w,h1,z,h=>by
  rw [Wg];by_cases C:100<=d
  ·obtain rfl:d=100:=by omega
   rw [if_pos C];exact jX pb tb cap 100 ts _ w (fun w1 j=>zky pb tb cap a _ ts w1 (h.below j)) h.ltp
  ·rw [if_neg C]
   exact jX pb tb cap d ts _ w (fun w1 j=>zkx pb tb cap a d _ ts _ (by omega) (fun w2 z=>iC pb tb cap d n ts (fun a w h=>fB pb tb cap ts A n (d+1) a w (by omega) (by omega) h) a w2 z A) (iD pb) w1 (h.below j)) h.ltp
end
section
variable {w w' : World} {lo lo' n m : Nat} {x : NV} {D : Ty} {ka : oA} {ks : List Ty} {a : oA} {ns : List (bS)}
theorem xV (h:Bb w lo a ns) (hl:lo'<=lo):Bb w lo' a ns:=by
 rcases h with h | ⟨b,o,e,hb,r⟩
 ·exact .inl h
 ·exact .inr ⟨b,o,e,by omega,r⟩
theorem zI (h:Qk w lo n ka ks) (j:lo'<=lo):Qk w lo' n ka ks:=by
 rcases h with h | ⟨b,o,e,hb,I,r⟩
 ·exact .inl h
 ·refine .inr ⟨b,o,e,by omega,I,fun i J=>?_⟩
  obtain⟨c0,c1,c2,c3,F,z,C,A,H⟩:=r i J;exact⟨c0,c1,c2,c3,F,z,C,A,bY H j⟩
theorem uA (h:Qk w lo n ka ks) (hm:n<=m):Qk w lo m ka ks:=by
 rcases h with h | ⟨b,o,e,j,I,r⟩
 ·exact .inl h
 ·refine .inr ⟨b,o,e,j,I,fun i J=>?_⟩
  obtain⟨c0,c1,c2,c3,F,z,C,A,H⟩:=r i J;exact⟨c0,c1,c2,c3,F,z,C,A,Rf H hm⟩
theorem zen (h:Hv w lo n x D) (z:lo'<=lo):Hv w lo' n x D:=by
 induction n generalizing x D with
 | zero=>exact h.elim
 | succ n ih =>
  obtain⟨tys,ns,ks,e,J,H,C,A,j⟩:=h;refine⟨tys,ns,ks,e,J,H,zI C z,xV A z,?_⟩;rcases j with j | ⟨b,o,e,hb,O,M⟩
  ·exact .inl j
  ·refine .inr ⟨b,o,e,by omega,O,fun i N=>?_⟩
   obtain⟨y,F,I⟩:=M i N;exact⟨y,F,ih I⟩
theorem Ee (h:Hv w lo n x D) (hm:n<=m):Hv w lo m x D:=by
 induction n generalizing m x D with
 | zero=>exact h.elim
 | succ n ih =>
  obtain⟨m,rfl⟩:∃ p,m=p+1:=⟨m - 1,by omega⟩
  obtain⟨tys,ns,ks,e,J,H,A,z,j⟩:=h;refine⟨tys,ns,ks,e,J,H,uA A (by omega),z,?_⟩;rcases j with j | ⟨b,o,e,F,O,M⟩
  ·exact .inl j
  ·refine .inr ⟨b,o,e,F,O,fun i N=>?_⟩
   obtain⟨y,C,I⟩:=M i N;exact⟨y,C,ih I (by omega)⟩
end
def Y0 (lo:Nat) (w:World) (x:NV) (D:Ty):Prop:=∃ m,Hv w lo m x D
def Z6 (lo:Nat) (w:World) (v:Value) (D:Ty):Prop:=∃ x:NV,v=x.val/\Y0 lo w x D
abbrev put8 (w:World) (b:Nat) (x:NV):World:=(((((((w.setCell (aP b 0) (iP x.k)).setCell (aP b 1) (.string x.tx)).setCell (aP b 2) (iP x.N)).setCell (aP b 3) (iP x.li)).setCell (aP b 4) (iP x.co)).setCell (aP b 5) (.slice x.ta x.tl x.tc)).setCell (aP b 6) (.slice x.na x.nl x.nc)).setCell (aP b 7) (.slice x.ka x.kl x.kc)
abbrev Zj:NV:=⟨0,⟨#[]⟩,0,0,0,none,0,0,none,0,0,none,0,0⟩
section
variable {w w' : World} {lo lo' b pb : Nat} {x y : NV} {D : Ty}
theorem Wv (h:w.heap[b]?=some y.obj):(put8 w b x).heap[b]?=some x.obj:=by
 have C:=Y1 (o:=0) (u:=iP x.k) h
 simp only [List.setIfInBounds_toArray,List.set_cons_zero] at C
 have J:=Y1 (o:=1) (u := .string x.tx) C
 simp only [List.setIfInBounds_toArray,List.set_cons_zero,List.set_cons_succ] at J
 have H:=Y1 (o:=2) (u:=iP x.N) J
 simp only [List.setIfInBounds_toArray,List.set_cons_zero,List.set_cons_succ] at H
 have F:=Y1 (o:=3) (u:=iP x.li) H
 simp only [List.setIfInBounds_toArray,List.set_cons_zero,List.set_cons_succ] at F
 have j:=Y1 (o:=4) (u:=iP x.co) F
 simp only [List.setIfInBounds_toArray,List.set_cons_zero,List.set_cons_succ] at j
 have I:=Y1 (o:=5) (u := .slice x.ta x.tl x.tc) j
 simp only [List.setIfInBounds_toArray,List.set_cons_zero,List.set_cons_succ] at I
 have A:=Y1 (o:=6) (u := .slice x.na x.nl x.nc) I
 simp only [List.setIfInBounds_toArray,List.set_cons_zero,List.set_cons_succ] at A
 have z:=Y1 (o:=7) (u := .slice x.ka x.kl x.kc) A
 simp only [List.setIfInBounds_toArray,List.set_cons_zero,List.set_cons_succ] at z
 exact z
theorem Nt:(put8 w b x).heap.size=w.heap.size:=by
 unfold put8
 rw [Yg,Yg,Yg,Yg,Yg,Yg,Yg,Yg]
theorem N7 {i:Nat} (h:i≠b):(put8 w b x).heap[i]?=w.heap[i]?:=by
 unfold put8
 rw [xH h,xH h,xH h,xH h,xH h,xH h,xH h,xH h]
theorem Wy (h:Zl pb w w') (z:pb<w.heap.size) (j:w.heap.size<=b) (x:NV):Zl pb w (put8 w' b x) :=
 (((((((h.own z j 0 _).own z j 1 _).own z j 2 _).own z j 3 _).own z j 4 _).own z j 5 _).own z j 6 _).own z j 7 _
theorem Ve {tb cap a d:Nat} {ts:List Tok} (h:Ps w pb tb cap ts a d) (j:pb<b) (x:NV):Ps (put8 w b x) pb tb cap ts a d :=
 (((((((h.other j 0 _).other j 1 _).other j 2 _).other j 3 _).other j 4 _).other j 5 _).other j 6 _).other j 7 _
theorem oG {B:Nat} {u:World} (h:Below B u w) (j:B<=b) (x:NV):Below B u (put8 w b x) :=
 (((((((h.setCell j _).setCell j _).setCell j _).setCell j _).setCell j _).setCell j _).setCell j _).setCell j _
theorem Y0.keep (h:Y0 lo w x D) (z:w.heap.size<=w'.heap.size) (j:∀ b,lo<=b->b<w.heap.size->w'.heap[b]?=w.heap[b]?):Y0 lo w' x D:=by
 obtain⟨m,h⟩:=h
 exact⟨m,nU h z j⟩
theorem Y0.lower (h:Y0 lo w x D) (j:lo'<=lo):Y0 lo' w x D:=by
 obtain⟨m,h⟩:=h
 exact⟨m,zen h j⟩
theorem Y0.stay (h:Y0 lo w x D) (j:Zl pb w w') (hp:pb<lo):Y0 lo w' x D:=h.keep j.size fun b hb z=>j.keep b (by omega) z
theorem Y0.below (h:Y0 lo w x D) (j:Below w.heap.size w w'):Y0 lo w' x D:=h.keep j.size fun b _ z=>j.block b z
theorem Y0.put8 (h:Y0 lo w x D) (hb:b<lo) (y:NV):Y0 lo (put8 w b y) x D:=h.keep (by rw [Nt]; exact xR) fun i hi _=>N7 (by omega)
theorem Y0.alloc (h:Y0 lo w x D) (o:Obj):Y0 lo (w.alloc o) x D:=h.keep (by simp) fun i _ j=>xA j
theorem Y0.set1 (h:Y0 lo w x D) (hb:b<lo) (o:Nat) (u:Value):Y0 lo (w.setCell (aP b o) u) x D :=
 h.keep (by rw [Yg]; exact xR) fun i hi _=>xH (by show i≠b; omega)
theorem Y0.place (h:Y0 lo w x D) (li co:Nat):∃ k tx N l c tys ns ks,D=Zp k tx N l c tys ns ks/\Y0 lo w { x with li:=li,co:=co } (Zp k tx N li co tys ns ks):=by
 obtain⟨m,h⟩:=h
 cases m with
 | zero=>exact h.elim
 | succ m =>
  obtain⟨tys,ns,ks,e,z,C,A,j,F⟩:=h;exact⟨_,_,_,_,_,_,_,_,e,m+1,tys,ns,ks,rfl,z,C,A,j,F⟩
end
theorem zbf (w:World) (j z h:Obj):(((w.alloc j).alloc z).alloc h).heap[w.heap.size+1+1]?=some h:=by
 have:=xL ((w.alloc j).alloc z) h
 simpa using this
theorem zbh (w:World) (z C j A h:Obj):(((((w.alloc z).alloc C).alloc j).alloc A).alloc h).heap[w.heap.size+1+1+1+1]?=some h:=by
 have:=xL ((((w.alloc z).alloc C).alloc j).alloc A) h
 simpa using this
theorem zbg (w:World) (z A j h C:Obj):(((((w.alloc z).alloc A).alloc j).alloc h).alloc C).heap[w.heap.size+1+1+1]?=some h:=by
 refine(xA (by simp)).trans ?_
 have:=xL (((w.alloc z).alloc A).alloc j) h
 simpa using this
def wT (W:World) (b:Nat) (x:NV):Prop :=
 (W.cell? (aP b 0)=some (iP x.k)/\W.cell? (aP b 1)=some (.string x.tx)/\W.cell? (aP b 2)=some (iP x.N)/\W.cell? (aP b 3)=some (iP x.li)/\W.cell? (aP b 4)=some (iP x.co) /\
 W.cell? (aP b 5)=some (.slice x.ta x.tl x.tc)/\W.cell? (aP b 6)=some (.slice x.na x.nl x.nc)/\W.cell? (aP b 7)=some (.slice x.ka x.kl x.kc)) /\
 (W.frozen? (aP b 0)=false/\W.frozen? (aP b 1)=false/\W.frozen? (aP b 2)=false/\W.frozen? (aP b 3)=false/\W.frozen? (aP b 4)=false/\W.frozen? (aP b 5)=false/\W.frozen? (aP b 6)=false/\W.frozen? (aP b 7)=false)/\b<W.heap.size
theorem Zn {W:World} {b:Nat} {x:NV} (h:W.heap[b]?=some x.obj):wT W b x:=by
 refine⟨⟨?_,?_,?_,?_,?_,?_,?_,?_⟩,⟨?_,?_,?_,?_,?_,?_,?_,?_⟩,xB h⟩
 all_goals first | (rw [cell_of_row _ _ _ _ _ _ h]; rfl) | simp [World.frozen?,h]
theorem L7 (t:Tok) (x:NV) (w:World):Calls prog 123 #[Cv t,x.val] w fun e w'=>e = .returned (NV.val { x with li:=t.line,co:=t.col })/\Below w.heap.size w w':=by
 obtain⟨k,tx,li,co⟩:=t
 obtain⟨xk,xt,xN,xl,xc,a1,a2,a3,b1,b2,b3,c1,c2,c3⟩:=x
 go_enter func123,ntmps123
 go_wp2_with fail
 go_region
 all_goals
  go_wp2_with fail;refine bodyPost_ret (results_cell_row rfl _ _ (w.heap.size+1+1) 64 _ (0,0) _ rfl (zbf _ _ _ _) underlying64 rfl (by kernel_rfl)) rfl ⟨rfl,?_⟩;exact((((Below.refl _ w).alloc (xR) _).alloc (by simp) _).alloc (by simp; omega) _).drew
abbrev M6 (t:Tok) (kb:Nat):NV:=⟨14,⟨t.text.toArray⟩,0,t.line,t.col,none,0,0,none,0,0,some (aP kb 0),2,2⟩
theorem dW (t:Tok) (x y:NV) (w:World):Calls prog 130 #[Cv t,x.val,y.val] w fun e w'=>∃ kb,e = .returned (M6 t kb).val/\Below w.heap.size w w'/\w.heap.size<=kb/\w'.heap[kb]?=some (.cells #[iP x.k,.string x.tx,iP x.N,iP x.li,iP x.co,.slice x.ta x.tl x.tc,.slice x.na x.nl x.nc,.slice x.ka x.kl x.kc,iP y.k,.string y.tx,iP y.N,iP y.li,iP y.co,.slice y.ta y.tl y.tc,.slice y.na y.nl y.nc,.slice y.ka y.kl y.kc] 64):=by
 obtain⟨k,h,li,co⟩:=t
 obtain⟨xk,xt,xN,xl,xc,a1,a2,a3,b1,b2,b3,c1,c2,c3⟩:=x
 obtain⟨yk,yt,yN,yl,yc,d1,d2,d3,e1,e2,e3,f1,f2,f3⟩:=y
 obtain⟨o1,z⟩:∃ o:Obj,o = .cells #[iP k,uP h,iP li,iP co] 121:=⟨_,rfl⟩
 have F:=Za (fun J=>L7 ⟨k,h,li,co⟩ ⟨14,⟨h.toArray⟩,0,0,0,none,0,0,none,0,0,some (aP (w.heap.size+1+1+1+1) 0),2,2⟩ J)
 clear z
 go_enter func130,ntmps130
 go_wp2_with fail
 refine(F.o _).mono ?_
 rintro e w1 ⟨rfl,j⟩
 have H:xQ (Below w.heap.size w w1):=Zz (Zz (Zz (Zz (Zz (Zq _ _) (Zq _ _)) (Zq _ _)) (Zq _ _)) (Zq _ _)) j
 have I:=Za ((j.block (w.heap.size+1+1+1+1) (by simp)).trans (zbh w _ _ _ _ _))
 have C:=(j.block (w.heap.size+1+1+1) (by simp)).trans (zbg w _ _ _ _ _)
 have A:xQ (w1.heap[w.heap.size+1+1+1]?=some Zj.obj):=C
 obtain⟨⟨r0,r1,r2,r3,r4,r5,r6,r7⟩,⟨f0,f1',f2',f3',f4,f5,f6,f7⟩,Yw⟩:=Zn A.o
 clear j C
 go_wp2_with fail
 refine bodyPost_ret (results_cell_row rfl _ _ (w.heap.size+1+1+1) 64 _ (0,0) _ rfl (Wv (x:=M6 ⟨k,h,li,co⟩ (w.heap.size+1+1+1+1)) A.o) underlying64 rfl (by kernel_rfl)) rfl ⟨w.heap.size+1+1+1+1,rfl,?_,by omega,?_⟩
 ·exact oG (x:=M6 ⟨k,h,li,co⟩ (w.heap.size+1+1+1+1)) H.o (by omega)
 ·exact(N7 (x:=M6 ⟨k,h,li,co⟩ (w.heap.size+1+1+1+1)) (by omega)).trans I.o
theorem Dv {lo kb:Nat} {w:World} {x y:NV} {D1 D2:Ty} (C:Y0 lo w x D1) (A:Y0 lo w y D2) (h:w.heap[kb]?=some (.cells #[iP x.k,.string x.tx,iP x.N,iP x.li,iP x.co,.slice x.ta x.tl x.tc,.slice x.na x.nl x.nc,.slice x.ka x.kl x.kc,iP y.k,.string y.tx,iP y.N,iP y.li,iP y.co,.slice y.ta y.tl y.tc,.slice y.na y.nl y.nc,.slice y.ka y.kl y.kc] 64)) (O:lo<=kb)
  (z:NV) (tys:List Ty) (ns:List (bS)) (F:z.ka=some (aP kb 0)/\z.kl=2) (M:z.tl=tys.length/\tys.length<=100000/\∃ m,Qk w lo m z.ta tys) (j:z.nl=ns.length/\ns.length<=100000/\Bb w lo z.na ns) :
  Y0 lo w z (Zp z.k z.tx.data.toList z.N z.li z.co tys ns [D1,D2]):=by
 obtain⟨Z,C⟩:=C
 obtain⟨V,A⟩:=A
 obtain⟨I,H,J,T⟩:=M
 refine⟨max (max Z V) J+1,tys,ns,[D1,D2],rfl,⟨I,j.1,F.2⟩,⟨H,j.2.1,(by show 2<=_; omega)⟩,uA T (Nat.le_max_right _ _),j.2.2,.inr ⟨kb,0,F.1,O,⟨_,_,h⟩,fun i Y=>?_⟩⟩
 match i,Y with
 | 0,_=>exact⟨x,⟨by rw [cell_of_row _ _ _ _ _ _ h]; rfl,by rw [cell_of_row _ _ _ _ _ _ h]; rfl,by rw [cell_of_row _ _ _ _ _ _ h]; rfl,by rw [cell_of_row _ _ _ _ _ _ h]; rfl,by rw [cell_of_row _ _ _ _ _ _ h]; rfl,by rw [cell_of_row _ _ _ _ _ _ h]; rfl,by rw [cell_of_row _ _ _ _ _ _ h]; rfl,by rw [cell_of_row _ _ _ _ _ _ h]; rfl⟩,Ee C (Nat.le_trans (Nat.le_max_left _ _) (Nat.le_max_left _ _))⟩
 | 1,_=>exact⟨y,⟨by rw [cell_of_row _ _ _ _ _ _ h]; rfl,by rw [cell_of_row _ _ _ _ _ _ h]; rfl,by rw [cell_of_row _ _ _ _ _ _ h]; rfl,by rw [cell_of_row _ _ _ _ _ _ h]; rfl,by rw [cell_of_row _ _ _ _ _ _ h]; rfl,by rw [cell_of_row _ _ _ _ _ _ h]; rfl,by rw [cell_of_row _ _ _ _ _ _ h]; rfl,by rw [cell_of_row _ _ _ _ _ _ h]; rfl⟩,Ee A (Nat.le_trans (Nat.le_max_right _ _) (Nat.le_max_left _ _))⟩
theorem zev {lo kb:Nat} {w w':World} {t:Tok} {x y:NV} {D1 D2:Ty} (C:Y0 lo w x D1) (z:Y0 lo w y D2) (h:Below w.heap.size w w') (A:lo<=kb) (j:w'.heap[kb]?=some (.cells #[iP x.k,.string x.tx,iP x.N,iP x.li,iP x.co,.slice x.ta x.tl x.tc,.slice x.na x.nl x.nc,.slice x.ka x.kl x.kc,iP y.k,.string y.tx,iP y.N,iP y.li,iP y.co,.slice y.ta y.tl y.tc,.slice y.na y.nl y.nc,.slice y.ka y.kl y.kc] 64)) :
  Y0 lo w' (M6 t kb) (Zp 14 t.text 0 t.line t.col [] [] [D1,D2]) :=
 Dv (C.below h) (z.below h) j A (M6 t kb) [] [] ⟨rfl,rfl⟩ ⟨rfl,xZ _,0,.inl rfl⟩ ⟨rfl,xZ _,.inl rfl⟩
section
attribute [local go_sem ↓] Go.wp_at_zero Go.wp_at_succ
def zZ (w:World) (b:Nat) (o:Obj):World:={ w with heap:=w.heap.setIfInBounds b o }
def Wb (lo nb:Nat) (w:World) (x:NV) (D:Ty):Prop:=∀ o,Y0 lo (zZ w nb o) x D
section
variable {w w' : World} {lo nb pb : Nat} {x y : NV} {D : Ty}
theorem wR (o:Obj):(zZ w nb o).heap.size=w.heap.size:=by simp [zZ]
theorem Rg (o:Obj) {i:Nat} (h:i≠nb):(zZ w nb o).heap[i]?=w.heap[i]?:=by
 unfold zZ
 simp only [Array.getElem?_setIfInBounds]
 rw [if_neg (fun e=>h e.symm)]
theorem lF (o:Obj) (h:nb<w.heap.size):(zZ w nb o).heap[nb]?=some o:=by
 unfold zZ
 simp [h]
theorem Wb.keep (h:Wb lo nb w x D) (z:nb<w.heap.size) (F:w.heap.size<=w'.heap.size) (C:∀ b,lo<=b->b<w.heap.size->b≠nb->w'.heap[b]?=w.heap[b]?):Wb lo nb w' x D:=fun o =>
 (h o).keep (by rw [wR,wR]; exact F) fun b A j=>by
  rw [wR] at j;by_cases e:b=nb
  ·subst e
   rw [lF o (by omega),lF o z]
  ·rw [Rg o e,Rg o e]
   exact C b A j e
theorem Wb.now (h:Wb lo nb w x D) (j:nb<w.heap.size):Y0 lo w x D:=by
 obtain⟨o,z⟩:∃ o,w.heap[nb]?=some o:=⟨_,Array.getElem?_eq_getElem j⟩
 refine(h o).keep (by rw [wR]; exact xR) fun b hb hl=>?_
 by_cases e:b=nb
 ·subst e
  rw [lF o j,z]
 ·rw [Rg o e]
theorem Wb.stay (h:Wb lo nb w x D) (z:nb<w.heap.size) (j:Zl pb w w') (hp:pb<lo):Wb lo nb w' x D:=h.keep z j.size fun b hb A _=>j.keep b (by omega) A
theorem Wb.below (h:Wb lo nb w x D) (z:nb<w.heap.size) (j:Below w.heap.size w w'):Wb lo nb w' x D:=h.keep z j.size fun b _ A _=>j.block b A
theorem Wb.alloc (h:Wb lo nb w x D) (j:nb<w.heap.size) (o:Obj):Wb lo nb (w.alloc o) x D:=h.below j (Zq _ _)
theorem Wb.put8 (h:Wb lo nb w x D) (j:nb<w.heap.size) (y:NV):Wb lo nb (put8 w nb y) x D:=h.keep j (by rw [Nt]; exact xR) fun b _ _ e=>N7 e
theorem qW (h:Y0 lo w x D) (o:Obj):Wb lo w.heap.size (w.alloc o) x D:=fun o' =>
 h.keep (by rw [wR]; simp) fun b _ j=>(Rg o' (by omega)).trans (xA j)
theorem qV {lo':Nat} (h:Y0 lo' w x D) (hl:nb<lo') (j:lo<=lo'):Wb lo nb w x D:=fun o =>
 (h.keep (by rw [wR]; exact xR) fun b hb _=>Rg o (by omega)).lower j
theorem zew {kb:Nat} {t:Tok} {D1 D2:Ty} (H:Wb lo nb w x D1) (C:Wb lo nb w y D2) (j:nb<w.heap.size) (z:Below w.heap.size w w') (F:lo<=kb) (h:kb≠nb) (A:w'.heap[kb]?=some (.cells #[iP x.k,.string x.tx,iP x.N,iP x.li,iP x.co,.slice x.ta x.tl x.tc,.slice x.na x.nl x.nc,.slice x.ka x.kl x.kc,iP y.k,.string y.tx,iP y.N,iP y.li,iP y.co,.slice y.ta y.tl y.tc,.slice y.na y.nl y.nc,.slice y.ka y.kl y.kc] 64)) :
  Wb lo nb w' (M6 t kb) (Zp 14 t.text 0 t.line t.col [] [] [D1,D2]):=fun o =>
 Dv (H.below j z o) (C.below j z o) ((Rg o h).trans A) F (M6 t kb) [] [] ⟨rfl,rfl⟩ ⟨rfl,xZ _,0,.inl rfl⟩ ⟨rfl,xZ _,.inl rfl⟩
end
theorem Hw.stay {w w1:World} {j pb:Nat} {L:List (bS)} (h:Hw w j L) (z:Zl pb w w1) (C:pb<j):Hw w1 j L :=
 ⟨xT h.1 z.size,fun i A=>(World.cell?_of_block (w:=w) (a:=aP j i) (z.keep j C h.1)).trans (h.2 i A)⟩
def lG (W:World) (b:Nat) (x:NV):Prop:=W.cell? (aP b 0)=some (iP x.k)/\W.cell? (aP b 1)=some (.string x.tx)/\W.cell? (aP b 2)=some (iP x.N)/\W.cell? (aP b 3)=some (iP x.li)/\W.cell? (aP b 4)=some (iP x.co) /\
 W.cell? (aP b 5)=some (.slice x.ta x.tl x.tc)/\W.cell? (aP b 6)=some (.slice x.na x.nl x.nc)/\W.cell? (aP b 7)=some (.slice x.ka x.kl x.kc)
def Wp (W:World) (b:Nat) (t:Tok):Prop:=W.cell? (aP b 0)=some (iP t.kind)/\W.cell? (aP b 1)=some (uP t.text)/\W.cell? (aP b 2)=some (iP t.line)/\W.cell? (aP b 3)=some (iP t.col)
theorem Y8 {W:World} {b:Nat} {t:Tok} (h:W.heap[b]?=some (.cells #[iP t.kind,uP t.text,iP t.line,iP t.col] 121)):Wp W b t:=(Yh h).1
def lR (pb tb cap d nb xb:Nat) (ts:List Tok) (L:List (bS)) (R:Pr Ty) (sub:Nat->Pr Ty) (m:Nat) (w:World) (x:NV) (D:Ty) (t:Tok) (w4:World) (y:NV) (D2:Ty) (b2:Nat):Prop :=
 R=Uw ts L sub m (Zp 14 t.text 0 t.line t.col [] [] [D,D2]) b2/\Zl pb w w4/\Ps w4 pb tb cap ts b2 d/\w4.heap[nb]?=some x.obj/\Wb (w.heap.size+1) nb w4 x D/\Wb (w.heap.size+1) nb w4 y D2/\w4.heap[w.heap.size]?=some Zj.obj/\Hw w4 xb L
theorem fG {ts:List Tok} {L:List (bS)} {sub:Nat->Pr Ty} {f a:Nat} {x:Ty} (h:(L.any fun s=>Zg ts a s)=false):Uw ts L sub (f+1) x a = .inl (x,a):=by
 rw [Uw]
 have:L.find? (Zg ts a)=none:=List.find?_eq_none.2 fun s j=>by
  have:=List.any_eq_false.1 h s j
  simpa using this
 rw [this]
theorem fH {ts:List Tok} {L:List (bS)} {sub:Nat->Pr Ty} {f a:Nat} {x:Ty} (h:(L.any fun s=>Zg ts a s)=true):Uw ts L sub (f+1) x a=(sub (a+1)).go fun y b=>Uw ts L sub f (Zp 14 (Zk ts a).text 0 (Zk ts a).line (Zk ts a).col [] [] [x,y]) b:=by
 rw [Uw]
 obtain⟨s,F,C⟩:=List.any_eq_true.1 h
 have:(L.find? (Zg ts a)).isSome=true:=List.find?_isSome.2 ⟨s,F,C⟩
 obtain⟨q,A⟩:=Option.isSome_iff_exists.1 this
 have j:=List.find?_some A
 have z:q=(Zk ts a).text:=by
  unfold Zg at j;simp only [Bool.and_eq_true,beq_iff_eq] at j;exact j.2.symm
 rw [A,z]
 rfl
theorem uI (pb tb cap d F xc:Nat) (ts:List Tok) (L:List (bS)) (hl:L.length<=100) (g:Nat) (sub:Nat->Pr Ty) (hg:Xs pb tb cap d ts Z6 g sub)
  (a:Nat) (w:World) (h:Ps w pb tb cap ts a d) (hL:Hw w F L) (Tu:pb<F) (ok:Ym ts) :
  Calls prog 124 #[qP pb,.func (.func g) #[] #[],lP F L.length xc] w (Ya pb tb cap ts d w Z6 ((sub a).go fun x a=>Uw ts L sub ts.length x a)):=by
 have H:=Za h
 have OK:=Za ok
 have HG:=Za hg
 have HL:=Za hL
 have U4:=hg.enters
 have M:=h.ltp
 obtain⟨R,hR⟩:=xE (((sub a).go fun x a=>Uw ts L sub ts.length x a))
 rw [<- hR]
 have V8:=Za hR
 clear h ok hg hL hR
 go_enter func124,ntmps124
 go_wp2_with fail
 refine(HG.o.calls a _ (H.o.alloc _)).mono ?_
 rintro e w1 ⟨j,N⟩
 have Zx:=Za ((Zl.of M (Zq _ _)).trans j)
 have V:=Za j
 have O:=Za ((j.keep _ M (by simp)).trans (xL w Zj.obj))
 clear j
 rcases hs:sub a with⟨D,b⟩ | ⟨er,li,co⟩
 case inr =>
  rw [hs] at N
  have HE:xQ (R = .inr (er,li,co)):=by show _=_; simp only [V8.o,hs,sG]
  subst N;clear hs;go_wp2_with fail;exact⟨rfl,Zx.o,by rw [HE.o]⟩
 rw [hs] at N
 obtain⟨T,v,rfl,x,rfl,hv⟩:=N
 have C:xQ (R=Uw ts L sub ts.length D b):=by show _=_; simp only [V8.o,hs,Fo]
 have HP:=Za T
 have HT:=Za hv
 have HU:=Za (HG.o.up _ _ _ hs)
 clear T hv hs V8
 obtain⟨nb,Vc⟩:=xE w1.heap.size
 have HNb:=Za Vc
 have Wq:w.heap.size<nb:=by rw [Vc]; exact xB O.o
 have Pq:xQ (Wb (w.heap.size+1) nb (w1.alloc x.obj) x D):=by rw [Vc]; exact qW (by simpa using HT.o) _
 have HN0:xQ ((w1.alloc x.obj).heap[nb]?=some x.obj):=by rw [Vc]; exact xL _ _
 have Gz:xQ (Hw (w1.alloc x.obj) F L):=by
  have h1:=(HL.o.below (Zq w Zj.obj)).stay V.o Tu;exact h1.below (Zq _ _)
 go_wp2_with fail
 rw [<- Vc]
 clear Vc
 go_loopg [8] (ts.length - b) (fun gk _ wr=>∃ (b m:Nat) (x:NV) (D:Ty),xQ (wr.heap[nb]?=some x.obj)/\xQ (Wb (w.heap.size+1) nb wr x D)/\xQ (Zl pb w wr)/\xQ (Ps wr pb tb cap ts b d)/\xQ (wr.heap[w.heap.size]?=some Zj.obj)/\xQ (Hw wr F L)/\xQ (R=Uw ts L sub m D b)/\xQ (ts.length<=b+m)/\ts.length - b<=gk)
 case atStart=>exact⟨b,ts.length,x,D,HN0,Pq,Zx.o.alloc M _,HP.o.alloc _,(xA (xB O.o)).trans O.o,Gz,C,Nat.le_add_left _ _,xR⟩
 case round =>
  clear Pq HN0 Gz HP HT HU C Zx O V HNb;obtain⟨b,m,x,D,HN,HX,Xc,Z,O,Gz,C,Qs,Pw⟩:=hrel;have HI:=Za (is_r pb tb cap b F xc ts L wr Z.o.rd Gz.o hl)
  obtain⟨m,rfl⟩:∃ q,m=q+1:=⟨m - 1,by have:=Qs.o; have:=Z.o.lt; omega⟩
  cases hs:L.any fun s=>Zg ts b s with
  | false =>
   have HE:=Za (C.o.trans (fG hs));rw [hs] at HI;clear hs;go_wp2_with fail;refine HI.o.mono ?_;rintro e w2 ⟨rfl,z⟩;have Ri:=Za (Xc.o.trans (Zl.of Z.o.ltp z));have A:=Za (Z.o.below z);have Zv:=Za (HX.o.below (xB HN.o) z);have Zy:=Za ((z.block _ (xB O.o)).trans O.o);have I:=Za ((z.block _ (xB HN.o)).trans HN.o);obtain⟨⟨r0,r1,r2,r3,r4,r5,r6,r7⟩,⟨f0,f1,f2,f3,f4,f5,f6,f7⟩,Yw⟩:=Zn Zy.o
   obtain⟨⟨n0,n1,n2,n3,n4,n5,n6,n7⟩,_,N5⟩:=Zn I.o
   have Z1:¬ nb=w.heap.size:=by omega
   clear z;go_wp2_with fail;rw [HE.o];refine r64 rfl rfl (Wv (x:=x) Zy.o) rfl ⟨Wy Ri.o M (xR) x,Ve A.o M x,_,rfl,x,rfl,?_⟩;exact((Zv.o.now N5).put8 (xU _) x).lower (Nat.le_succ _)
  | true =>
   have HRB:=Za (C.o.trans (fH hs))
   have Dp:∃ s,Zg ts b s=true:=by
    obtain⟨s,_,h2⟩:=List.any_eq_true.1 hs;exact⟨s,h2⟩
   have Gv:xQ (b+1<ts.length):=by
    obtain⟨s,h2⟩:=Dp;exact Xx OK.o.ends Z.o.lt h2
   rw [hs] at HI;clear hs Dp;obtain⟨t,ht⟩:=xE (Zk ts b);rw [<- ht] at HRB;go_wp2_with fail;refine HI.o.mono ?_;rintro e w2 ⟨rfl,z⟩;have Ri:=Za (Xc.o.trans (Zl.of Z.o.ltp z));have A:=Za (Z.o.below z);have Zv:=Za (HX.o.below (xB HN.o) z);have Zy:=Za ((z.block _ (xB O.o)).trans O.o);have I:=Za ((z.block _ (xB HN.o)).trans HN.o);have HT2:=Za (Gz.o.below z);clear z;go_wp2_with fail
   refine(Jj pb tb cap b d ts _ A.o Gv.o OK.o.len).mono ?_;rw [<- ht];rintro e w3 ⟨rfl,j,T⟩;have HPs3:xQ (pb<w3.heap.size):=T.ltp;have Tb:=Za ((Ri.o.trans j).alloc M (.cells #[iP t.kind,uP t.text,iP t.line,iP t.col] 121));have F2:=Za (T.alloc (.cells #[iP t.kind,uP t.text,iP t.line,iP t.col] 121));have P9:=Za ((Zv.o.stay (xB I.o) j (by omega)).alloc (xT (xB I.o) j.size) (.cells #[iP t.kind,uP t.text,iP t.line,iP t.col] 121))
   have Yz:=Za ((Below.heap_alloc w3 (.cells #[iP t.kind,uP t.text,iP t.line,iP t.col] 121) _ (xT (xB Zy.o) j.size)).trans ((j.keep _ M (xB Zy.o)).trans Zy.o));have Lj:=Za ((Below.heap_alloc w3 (.cells #[iP t.kind,uP t.text,iP t.line,iP t.col] 121) _ (xT (xB I.o) j.size)).trans ((j.keep _ (by omega) (xB I.o)).trans I.o));have HT3:=Za ((HT2.o.stay j Tu).below (Zq _ (.cells #[iP t.kind,uP t.text,iP t.line,iP t.col] 121)))
   have HCw:=Za (Zn ((j.keep _ (by omega) (xB I.o)).trans I.o)).1;have HLw:=Za (xT (xB I.o) j.size);have HTb:=Za (xL w3 (.cells #[iP t.kind,uP t.text,iP t.line,iP t.col] 121));clear j T ht
   have HC:xQ (Calls prog g #[qP pb] (w3.alloc (.cells #[iP t.kind,uP t.text,iP t.line,iP t.col] 121)).drew fun e w4=>(∃ chain,e = .panicked chain/\Ya pb tb cap ts d w Z6 R e w4) ∨
     ∃ (y:NV) (D2:Ty) (b2:Nat),e = .returned y.val/\lG w4 nb x/\Wp w4 w3.heap.size t/\xQ (lR pb tb cap d nb F ts L R sub m w x D t w4 y D2 b2/\b+1<=b2)):=by
    refine(HG.o.calls (b+1) _ F2.o.drew).mono ?_;rintro e w4 ⟨hst',N⟩;have j:=hst'.undrew;have Y:=Tb.o.trans j;rcases hk:sub (b+1)with⟨D2,b2⟩ | ⟨er,li,co⟩
    ·rw [hk] at N
     obtain⟨T,v,rfl,y,rfl,hv⟩:=N;have hn4:=(j.keep nb (by omega) (xB Lj.o)).trans Lj.o;refine .inr ⟨y,D2,b2,rfl,(Zn hn4).1,Y8 ((j.keep w3.heap.size (by have:=A.o.ltp; have:=HPs3.o; omega) (xB HTb.o)).trans HTb.o),⟨by rw [HRB.o,hk]; rfl,Y,T,hn4,P9.o.stay (xB Lj.o) j (by omega),qV hv (xB Lj.o) (xB Yz.o),(j.keep _ M (xB Yz.o)).trans Yz.o,HT3.o.stay j Tu⟩,HG.o.up _ _ _ hk⟩
    ·rw [hk] at N
     subst N;exact .inl ⟨_,rfl,Y,by rw [HRB.o,hk]; rfl⟩
   have To:xQ (∀ (w4:World) (y:NV) (D2:Ty) (b2:Nat),xQ (lR pb tb cap d nb F ts L R sub m w x D t w4 y D2 b2/\b+1<=b2)->Calls prog 130 #[Cv t,x.val,y.val] w4 fun e J=>∃ kb,e = .returned (M6 t kb).val/\wT J nb x/\xQ ((put8 J nb (M6 t kb)).heap[nb]?=some (M6 t kb).obj/\Wb (w.heap.size+1) nb (put8 J nb (M6 t kb)) (M6 t kb) (Zp 14 t.text 0 t.line t.col [] [] [D,D2])/\Zl pb w (put8 J nb (M6 t kb))/\Ps (put8 J nb (M6 t kb)) pb tb cap ts b2 d/\(put8 J nb (M6 t kb)).heap[w.heap.size]?=some Zj.obj/\Hw (put8 J nb (M6 t kb)) F L/\R=Uw ts L sub m (Zp 14 t.text 0 t.line t.col [] [] [D,D2]) b2/\b+1<=b2)):=by
    intro w4 y D2 b2 hh;obtain⟨⟨q1,q2,q3,q4,q5,q6,q7,q8⟩,q9⟩:=hh.o;refine(dW t x y w4).mono ?_;rintro e J ⟨kb,rfl,hb,Vt,hk⟩;have hn5:=(hb.block nb (xB q4)).trans q4;have hnb4:=xB q4;have hx5:=zew (t:=t) q5 q6 hnb4 hb (by omega) (by omega) hk;refine⟨kb,rfl,Zn hn5,Wv hn5,hx5.put8 (xB hn5) _,Wy (q2.trans (Zl.of q3.ltp hb)) M (by omega) _,Ve (q3.below hb) (by omega) _,?_,?_,q1,q9⟩
    ·exact(N7 (by omega)).trans ((hb.block _ (xB q7)).trans q7)
    ·have h8:=q8.below hb
     exact⟨by rw [Nt]; exact h8.1,fun i hi=>(World.cell?_of_block (w:=J) (a:=aP F i) (N7 (by have:=HL.o.1; show F≠nb; omega))).trans (h8.2 i hi)⟩
   obtain⟨m0,m1,m2,m3,m4,m5,m6,m7⟩:=HCw.o;have hlw3:=HLw.o;go_wp2_with fail
   go_region_with (first
    | (go_at_call 130; refine(To.o _ _ _ _ Nz).mono ?_; rintro e J ⟨kb,rfl,t8,Js⟩; obtain⟨⟨p0,p1,p2,p3,p4,p5,p6,p7⟩,⟨f0,f1,f2,f3,f4,f5,f6,f7⟩,hl5⟩:=t8)
    | (refine HC.o.mono ?_; rintro e w4 (⟨ch,rfl,hf⟩ | ⟨y,D2,b2,rfl,t5,t6,Nz⟩); exact⟨rfl,hf⟩; unfold lG at t5; unfold Wp at t6; obtain⟨n0,n1,n2,n3,n4,n5,n6,n7⟩:=t5; obtain⟨k0,k1,k2,k3⟩:=t6))
   all_goals
    go_wp2_with fail;obtain⟨g1,g2,g3,g4,g5,g6,g7,g8⟩:=Js.o
    go_roundg (ts.length - b2)
    case measure=>have:=g4.lt; omega
    case rel=>exact⟨b2,m,M6 t kb,_,g1,g2,g3,g4,g5,g6,g7,(by have:=Qs.o; show _<=_; omega),xR⟩
end
end Go.Proofs.YtoppemkjhhlegaaGreatDoor
