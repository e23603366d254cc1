/- Part. -/
import Derived.Deep.DrawnRows
import Derived.Test.YtoppemkjhhlegaaGreatDoorPart3
set_option maxRecDepth 100000
set_option maxHeartbeats 4000000
namespace Go.Proofs.YtoppemkjhhlegaaGreatDoor
open Go.Proofs.Tryz
open Go.RowKit
abbrev Ww:Obj := .cells #[iP 0,sP,nP,nP] 94
theorem prim_c (pb tb cap d:Nat) (ts:List Tok) (K:Nat->Pr Ty) (hg:Xs pb tb cap d ts Yk 106 K)
  (f a:Nat) (hf:ts.length<=a+1+(f+1)) (hf2:f+1<=8193) (w:wD) (h:Ps w pb tb cap ts a d) (ok:Ym ts) :
  Calls prog 129 #[qP pb] w (Ya pb tb cap ts d w Yk (Mw ts K (f+1) a)):=by
 have H:=Za h
 have C:=Za ok
 have HG:=Za hg
 have HF:=Za hf
 clear hf
 have HW:=Za (cH pb tb cap a (w.heap.size+1) 5 ts yL (w.alloc Ww) 9 (h.alloc _).rd (by simp) (by simp))
 clear h ok hg
 obtain⟨kv,hkv⟩:=xE (Nv (Zk ts a) yL)
 rw [<- hkv] at HW
 by_cases h0:0<=kv
 ·obtain⟨i,rfl⟩:∃ i:Nat,kv=i:=⟨kv.toNat,by omega⟩
  obtain⟨e1,e2,s,e3⟩:=zfw ts K (f+1) a i hkv.symm;rw [e1];have HN:=Za (Xx C.o.ends H.o.lt e3);clear hkv e1 e3;go_enter func129,ntmps129;go_wp2_with fail;refine HW.o.mono ?_;rintro e w1 ⟨rfl,A⟩;have P1:=Za ((H.o.alloc _).below A);have O:=Za (Zz (Zq _ _) A);have F:=Za ((A.block w.heap.size (by simp)).trans (xL w _));clear A;go_wp2_with fail;refine(Jj pb tb cap a d ts _ P1.o HN.o C.o.len).mono ?_
  rintro e w2 ⟨rfl,j,z⟩;have J:=(j.keep _ H.o.ltp (xB F.o)).trans F.o;obtain⟨⟨r0,r1,r2,r3⟩,⟨f0,f1,f2,f3⟩,Yw⟩:=Yh J;have I:=Za J;have N:=Za z;have M:=Za ((Zl.of H.o.ltp O.o).trans j);clear j z J;go_wp2_with fail;refine r94 rfl rfl (set4 I.o _ _ _ _) rfl ⟨Q6 M.o H.o.ltp (xR) _ _ _ _,Jk N.o H.o.ltp _ _ _ _,_,rfl,?_⟩;exact zX _ _ i ⟨#[]⟩ (by rcases(by omega:i=0∨i=1∨i=2∨i=3∨i=4)with rfl | rfl | rfl | rfl | rfl <;> decide) (by decide)
 ·rw [zfv ts K (f+1) a (by omega)]
  have hneg:kv<0:=by omega
  clear h0 hkv;unfold bG
  cases hs:Zg ts a [123] with
  | true =>
   rw [if_pos rfl];have HN:=Za (Xx C.o.ends H.o.lt hs);have Uk:=Za hs;clear hs
   cases hfi:B7 ts K (f+1) (a+1)with
   | inr x =>
    obtain⟨er,li,co⟩:=x;have N8:=Za hfi;clear hfi;go_enter func129,ntmps129;go_wp2_with fail;refine HW.o.mono ?_;rintro e w1 ⟨rfl,A⟩;have P1:=Za ((H.o.alloc _).below A);have O:=Za (Zz (Zq _ _) A);have F:=Za ((A.block w.heap.size (by simp)).trans (xL w _));clear A;go_wp2_with fail;refine(Ta pb tb cap a d ts [123] w1 P1.o C.o).mono ?_;rw [Uk.o,if_pos rfl];rintro e w2 ⟨rfl,j,z⟩
    have I:=Za ((j.keep _ H.o.ltp (xB F.o)).trans F.o);have N:=Za z;have M:=Za ((Zl.of H.o.ltp O.o).trans j);clear j z;go_wp2_with fail;refine(jH pb tb cap d ts 106 K HG.o f (a+1) (by have:=HF.o; omega) w2 N.o C.o).mono ?_;rw [N8.o];rintro e w3 ⟨j,rfl⟩;have V:=Za (M.o.trans j);clear j;go_wp2_with fail;exact⟨rfl,V.o,rfl⟩
   | inl x =>
    obtain⟨l,b⟩:=x;have N8:=Za hfi;obtain⟨Xz,Uo⟩:=mW C.o hfi;have Ny:=Za Uo;clear hfi Uo;go_enter func129,ntmps129;go_wp2_with fail;refine HW.o.mono ?_;rintro e w1 ⟨rfl,A⟩;have P1:=Za ((H.o.alloc _).below A);have O:=Za (Zz (Zq _ _) A);have F:=Za ((A.block w.heap.size (by simp)).trans (xL w _));clear A;go_wp2_with fail;refine(Ta pb tb cap a d ts [123] w1 P1.o C.o).mono ?_
    rw [Uk.o,if_pos rfl];rintro e w2 ⟨rfl,j,z⟩;have I:=Za ((j.keep _ H.o.ltp (xB F.o)).trans F.o);have N:=Za z;have M:=Za ((Zl.of H.o.ltp O.o).trans j);clear j z;go_wp2_with fail;refine(jH pb tb cap d ts 106 K HG.o f (a+1) (by have:=HF.o; omega) w2 N.o C.o).mono ?_;rw [N8.o];rintro e w3 ⟨j,z,v,rfl,hv⟩;obtain⟨fa,fc,fa',fc',rfl,ht⟩:=eH hv (by omega) Ny.o;have J:=(j.keep _ H.o.ltp (xB I.o)).trans I.o
    obtain⟨⟨r0,r1,r2,r3⟩,⟨f0,f1,f2,f3⟩,Yw⟩:=Yh J;have Z:=Za J;have Y:=Za z;have V:=Za (M.o.trans j);have HT3:=Za ht;have T:=Za (xB I.o);clear j z J ht hv;go_wp2_with fail;refine r94 rfl rfl (set4 Z.o _ _ _ _) rfl ⟨Q6 V.o H.o.ltp (xR) _ _ _ _,Jk Y.o H.o.ltp _ _ _ _,_,rfl,?_⟩;exact(HT3.o.set4 T.o _ _ _ _).lower (Nat.le_of_lt T.o)
  | false =>
   rw [if_neg (by simp)];have Uk:=Za hs;clear hs
   cases Wj:Zg ts a [40] with
   | true =>
    rw [if_pos rfl];have HN:=Za (Xx C.o.ends H.o.lt Wj);have yF:=Za Wj;clear Wj
    cases hk:K (a+1)with
    | inr x =>
     obtain⟨er,li,co⟩:=x;have HK:=Za hk;clear hk;go_enter func129,ntmps129;go_wp2_with fail;refine HW.o.mono ?_;rintro e w1 ⟨rfl,A⟩;have P1:=Za ((H.o.alloc _).below A);have O:=Za (Zz (Zq _ _) A);have F:=Za ((A.block w.heap.size (by simp)).trans (xL w _));clear A;go_wp2_with fail;refine(Ta pb tb cap a d ts [123] w1 P1.o C.o).mono ?_;rw [Uk.o,if_neg (by simp)];rintro e w2 ⟨rfl,j,z⟩
     have I:=Za ((j.keep _ H.o.ltp (xB F.o)).trans F.o);have N:=Za z;have M:=Za ((Zl.of H.o.ltp O.o).trans j);clear j z;go_wp2_with fail;refine(Ta pb tb cap a d ts [40] w2 N.o C.o).mono ?_;rw [yF.o,if_pos rfl];rintro e w3 ⟨rfl,j,z⟩;have Z:=Za ((j.keep _ H.o.ltp (xB I.o)).trans I.o);have Y:=Za z;have V:=Za (M.o.trans j);clear j z;go_wp2_with fail;refine(HG.o.calls (a+1) w3 Y.o).mono ?_
     rw [HK.o];rintro e w4 ⟨j,rfl⟩;have P8:=Za (V.o.trans j);clear j;go_wp2_with fail;exact⟨rfl,P8.o,rfl⟩
    | inl x =>
     obtain⟨D,b⟩:=x;have HK:=Za hk;clear hk;show Calls _ _ _ _ (Ya pb tb cap ts d w Yk ((Ze ts b [41]).go fun _ a => .inl (D,a)))
     cases hw:Ze ts b [41] with
     | inr x =>
      obtain⟨er,li,co⟩:=x;have Kx:=Za hw;clear hw;go_enter func129,ntmps129;go_wp2_with fail;refine HW.o.mono ?_;rintro e w1 ⟨rfl,A⟩;have P1:=Za ((H.o.alloc _).below A);have O:=Za (Zz (Zq _ _) A);have F:=Za ((A.block w.heap.size (by simp)).trans (xL w _));clear A;go_wp2_with fail;refine(Ta pb tb cap a d ts [123] w1 P1.o C.o).mono ?_;rw [Uk.o,if_neg (by simp)];rintro e w2 ⟨rfl,j,z⟩
      have I:=Za ((j.keep _ H.o.ltp (xB F.o)).trans F.o);have N:=Za z;have M:=Za ((Zl.of H.o.ltp O.o).trans j);clear j z;go_wp2_with fail;refine(Ta pb tb cap a d ts [40] w2 N.o C.o).mono ?_;rw [yF.o,if_pos rfl];rintro e w3 ⟨rfl,j,z⟩;have Z:=Za ((j.keep _ H.o.ltp (xB I.o)).trans I.o);have Y:=Za z;have V:=Za (M.o.trans j);clear j z;go_wp2_with fail;refine(HG.o.calls (a+1) w3 Y.o).mono ?_
      rw [HK.o];rintro e w4 ⟨j,z,v,rfl,hv⟩;obtain⟨k1,nm1,na1,nl1,nc1,ka1,kl1,kc1,rfl⟩:=hv.cells;have P8:=Za (V.o.trans j);have Sa:=Za z;clear j z hv;go_wp2_with fail;refine(Uy pb tb cap b d ts [41] _ (Sa.o.alloc _) C.o).mono ?_;rw [Kx.o];rintro e w5 ⟨j,rfl⟩;have Hp:=Za ((P8.o.alloc H.o.ltp _).trans j);clear j;go_wp2_with fail;exact⟨rfl,Hp.o,rfl⟩
     | inl x =>
      obtain⟨u,b'⟩:=x;have Kx:=Za hw;clear hw;go_enter func129,ntmps129;go_wp2_with fail;refine HW.o.mono ?_;rintro e w1 ⟨rfl,A⟩;have P1:=Za ((H.o.alloc _).below A);have O:=Za (Zz (Zq _ _) A);have F:=Za ((A.block w.heap.size (by simp)).trans (xL w _));clear A;go_wp2_with fail;refine(Ta pb tb cap a d ts [123] w1 P1.o C.o).mono ?_;rw [Uk.o,if_neg (by simp)];rintro e w2 ⟨rfl,j,z⟩
      have I:=Za ((j.keep _ H.o.ltp (xB F.o)).trans F.o);have N:=Za z;have M:=Za ((Zl.of H.o.ltp O.o).trans j);clear j z;go_wp2_with fail;refine(Ta pb tb cap a d ts [40] w2 N.o C.o).mono ?_;rw [yF.o,if_pos rfl];rintro e w3 ⟨rfl,j,z⟩;have Z:=Za ((j.keep _ H.o.ltp (xB I.o)).trans I.o);have Y:=Za z;have V:=Za (M.o.trans j);clear j z;go_wp2_with fail;refine(HG.o.calls (a+1) w3 Y.o).mono ?_
      rw [HK.o];rintro e w4 ⟨j,z,v,rfl,hv⟩;obtain⟨k1,nm1,na1,nl1,nc1,ka1,kl1,kc1,rfl⟩:=hv.cells;have P8:=Za (V.o.trans j);have Sa:=Za z;have Xn:=Za ((j.keep _ H.o.ltp (xB Z.o)).trans Z.o);have HT4:=Za hv;have T:=Za (xT (xB Z.o) j.size);have HLt3:=Za (xB Z.o);clear j z hv;go_wp2_with fail;refine(Uy pb tb cap b d ts [41] _ (Sa.o.alloc _) C.o).mono ?_;rw [Kx.o]
      rintro e w5 ⟨j,z,v,rfl,_⟩;have J:=(j.keep _ H.o.ltp (by have:=T.o; simp; omega)).trans ((xA T.o).trans Xn.o);obtain⟨⟨r0,r1,r2,r3⟩,⟨f0,f1,f2,f3⟩,Yw⟩:=Yh J;obtain⟨⟨b0,b1,b2,b3⟩,_,Sw⟩:=Yh ((j.keep w4.heap.size Sa.o.ltp (by simp)).trans (xL w4 _));have Wn:=Za J;have Sb:=Za z;have Hp:=Za ((P8.o.alloc H.o.ltp _).trans j);have HT5:=Za ((HT4.o.alloc _).stay j Y.o.ltp)
      have Z1:¬ w4.heap.size=w.heap.size:=by have:=T.o; omega
      clear j z J;go_wp2_with fail;refine r94 rfl rfl (set4 Wn.o _ _ _ _) rfl ⟨Q6 Hp.o H.o.ltp (xR) _ _ _ _,Jk Sb.o H.o.ltp _ _ _ _,_,rfl,?_⟩;exact(HT5.o.set4 HLt3.o _ _ _ _).lower (Nat.le_of_lt HLt3.o)
   | false =>
    rw [if_neg (by simp)];have yF:=Za Wj;clear Wj
    cases hk:Zu ts a with
    | inr x =>
     obtain⟨er,li,co⟩:=x;have HK:=Za hk;clear hk;go_enter func129,ntmps129;go_wp2_with fail;refine HW.o.mono ?_;rintro e w1 ⟨rfl,A⟩;have P1:=Za ((H.o.alloc _).below A);have O:=Za (Zz (Zq _ _) A);have F:=Za ((A.block w.heap.size (by simp)).trans (xL w _));clear A;go_wp2_with fail;refine(Ta pb tb cap a d ts [123] w1 P1.o C.o).mono ?_;rw [Uk.o,if_neg (by simp)];rintro e w2 ⟨rfl,j,z⟩
     have I:=Za ((j.keep _ H.o.ltp (xB F.o)).trans F.o);have N:=Za z;have M:=Za ((Zl.of H.o.ltp O.o).trans j);clear j z;go_wp2_with fail;refine(Ta pb tb cap a d ts [40] w2 N.o C.o).mono ?_;rw [yF.o,if_neg (by simp)];rintro e w3 ⟨rfl,j,z⟩;have Z:=Za ((j.keep _ H.o.ltp (xB I.o)).trans I.o);have Y:=Za z;have V:=Za (M.o.trans j);clear j z;go_wp2_with fail;refine(Dx pb tb cap a d ts w3 Y.o C.o).mono ?_
     rw [HK.o];rintro e w4 ⟨j,rfl⟩;have P8:=Za (V.o.trans j);clear j;go_wp2_with fail;exact⟨rfl,P8.o,rfl⟩
    | inl x =>
     obtain⟨s,b⟩:=x;have HK:=Za hk;have Gz:=Za (show s.length<=70000 from dH hk ▸ C.o.txt a);clear hk;go_enter func129,ntmps129;go_wp2_with fail;refine HW.o.mono ?_;rintro e w1 ⟨rfl,A⟩;have P1:=Za ((H.o.alloc _).below A);have O:=Za (Zz (Zq _ _) A);have F:=Za ((A.block w.heap.size (by simp)).trans (xL w _));clear A;go_wp2_with fail;refine(Ta pb tb cap a d ts [123] w1 P1.o C.o).mono ?_
     rw [Uk.o,if_neg (by simp)];rintro e w2 ⟨rfl,j,z⟩;have I:=Za ((j.keep _ H.o.ltp (xB F.o)).trans F.o);have N:=Za z;have M:=Za ((Zl.of H.o.ltp O.o).trans j);clear j z;go_wp2_with fail;refine(Ta pb tb cap a d ts [40] w2 N.o C.o).mono ?_;rw [yF.o,if_neg (by simp)];rintro e w3 ⟨rfl,j,z⟩;have Z:=Za ((j.keep _ H.o.ltp (xB I.o)).trans I.o);have Y:=Za z;have V:=Za (M.o.trans j)
     clear j z;go_wp2_with fail;refine(Dx pb tb cap a d ts w3 Y.o C.o).mono ?_;rw [HK.o];rintro e w4 ⟨j,z,v,rfl,rfl⟩;have J:=(j.keep _ H.o.ltp (xB Z.o)).trans Z.o;obtain⟨⟨r0,r1,r2,r3⟩,⟨f0,f1,f2,f3⟩,Yw⟩:=Yh J;have Xn:=Za J;have Sa:=Za z;have P8:=Za (V.o.trans j);clear j z J;go_wp2_with fail;refine r94 rfl rfl (set4 Xn.o _ _ _ _) rfl ⟨Q6 P8.o H.o.ltp (xR) _ _ _ _,Jk Sa.o H.o.ltp _ _ _ _,_,rfl,?_⟩
     exact zX _ _ 8 ⟨s.toArray⟩ (by decide) (by have:=Gz.o; unfold reachBytes; show s.toArray.size<=_; simp; omega)
section
attribute [local go_sem ↓] Go.wp_at_zero Go.wp_at_succ
section
variable {ts : List Tok} {K : Nat -> Pr Ty} {f a b : Nat} {l : List Ty} {D : Ty}
theorem cW {e:Int×Nat×Nat} (h:Z9 ts (Mw ts K f) [124] f a = .inr e):Jv ts K f a = .inr e:=by unfold Jv; rw [h]; rfl
theorem iB (h:Z9 ts (Mw ts K f) [124] f a = .inl ([D],b)):Jv ts K f a = .inl (D,b):=by unfold Jv; rw [h]; rfl
theorem cZ (h:Z9 ts (Mw ts K f) [124] f a = .inl (l,b)) (j:l.length≠1):Jv ts K f a = .inl (Y7 7 [] [] l,b):=by
 unfold Jv
 rw [h]
 match l,j with
 | [],_=>rfl
 | [_],j=>exact absurd rfl j
 | _ :: _ :: _,_=>rfl
end
theorem alt_c (pb tb cap d:Nat) (ts:List Tok) (K:Nat->Pr Ty) (hg:Xs pb tb cap d ts Yk 106 K)
  (f a:Nat) (hf:f+1=ts.length) (w:wD) (h:Ps w pb tb cap ts a d) (J:Ym ts) :
  Calls prog 122 #[qP pb] w (Ya pb tb cap ts d w Yk (Jv ts K (f+1) a)):=by
 have H:=Za h
 have OK:=Za J
 have HRd:xQ (Xs pb tb cap d ts Yk 129 (Mw ts K (f+1))):=⟨fun a w h=>prim_c pb tb cap d ts K hg f a (by omega) (by have:=J.len; omega) w h J,zft pb,fun a x b hx=>sJ hg.up hx⟩
 have C:=Za (fU pb tb cap d ts [124] _ _ HRd.o f a (by omega) (w.alloc Ww) (h.alloc _) J)
 clear h J hg
 cases hm:Z9 ts (Mw ts K (f+1)) [124] (f+1) a with
 | inr x =>
  obtain⟨er,li,co⟩:=x;rw [cW hm];rw [hm] at C;clear hm;go_enter func122,ntmps122;go_wp2_with fail;refine C.o.mono ?_;rintro e w1 ⟨j,rfl⟩;have A:=Za ((Zl.of H.o.ltp (Zq _ _)).trans j);clear j;go_wp2_with fail;exact⟨rfl,A.o,rfl⟩
 | inl x =>
  obtain⟨l,b⟩:=x;have On:=Za (Cm _ hm);have HNe:=Za (zds hm);rw [hm] at C;by_cases N:l.length=1
  ·obtain⟨D,rfl⟩:∃ D,l=[D]:=List.length_eq_one_iff.1 N
   rw [iB hm];clear N hm;go_enter func122,ntmps122;go_wp2_with fail;refine C.o.mono ?_;rintro e w1 ⟨j,I,v,rfl,cs,hv⟩;obtain⟨av,Y,m,rfl,_,M⟩:=Ek hv;obtain⟨kb,ko,k1,nm1,T,nl1,V,ka1,kl1,kc1,rfl,Vt,q0,q1,q2,q3,hT⟩:=zck M (i:=0) (by simp);have F:=Za ((j.keep _ H.o.ltp (by simp)).trans (xL w _));obtain⟨⟨r0,r1,r2,r3⟩,⟨f0,f1,f2,f3⟩,Yw⟩:=Yh F.o
   have A:=Za ((Zl.of H.o.ltp (Zq _ _)).trans j);have Z:=Za I
   have O:xQ (Yk (w.heap.size+1) w1 (.agg #[iP k1,.string nm1,.slice T nl1 V,.slice ka1 kl1 kc1]) D):=by
    refine⟨m,?_⟩
    simpa using hT
   simp only [Nat.zero_mul,Nat.add_zero] at q0 q1 q2 q3;have Xz:([D]:List Ty).length=1:=rfl;clear j I hv M hT;go_wp2_with fail;refine r94 rfl rfl (set4 F.o _ _ _ _) rfl ⟨Q6 A.o H.o.ltp (xR) _ _ _ _,Jk Z.o H.o.ltp _ _ _ _,_,rfl,?_⟩;exact(O.o.set4 (xU _) _ _ _ _).lower (Nat.le_succ _)
  ·have Xz:((l.length:Int) == 1)=false:=by simp; omega
   have z:xQ (l.length<=8193):=by have:=On.o; have:=OK.o.len; show _<=_; omega
   rw [cZ hm N];clear N hm;go_enter func122,ntmps122;go_wp2_with fail;refine C.o.mono ?_;rintro e w1 ⟨j,I,v,rfl,cs,hv⟩;obtain⟨av,Y,m,rfl,hcv,M⟩:=Ek hv;have F:=Za ((j.keep _ H.o.ltp (by simp)).trans (xL w _));obtain⟨⟨r0,r1,r2,r3⟩,⟨f0,f1,f2,f3⟩,Yw⟩:=Yh F.o;have A:=Za ((Zl.of H.o.ltp (Zq _ _)).trans j);have Z:=Za I
   have O:xQ (Yk (w.heap.size+1) w1 (.agg #[iP 7,sP,nP,.slice av l.length Y]) (Y7 7 [] [] l)) :=
    ⟨m+1,7,⟨#[]⟩,none,0,av,Y,[],l,rfl,rfl,by decide,by decide,(fun _ h=>nomatch h),⟨xR,xZ _⟩,⟨hcv,(by have:=z.o; unfold reachBytes; omega)⟩,.inl rfl,by simpa using M⟩
   clear j I hv M;go_wp2_with fail;refine r94 rfl rfl (set4 F.o _ _ _ _) rfl ⟨Q6 A.o H.o.ltp (xR) _ _ _ _,Jk Z.o H.o.ltp _ _ _ _,_,rfl,?_⟩;exact(O.o.set4 (xU _) _ _ _ _).lower (Nat.le_succ _)
theorem Fo {α β:Type} (x:α) (a:Nat) (f:α->Nat->Pr β):Pr.go (.inl (x,a)) f=f x a:=rfl
theorem sI {α β:Type} (e:Int×Nat×Nat) (f:α->Nat->Pr β):Pr.go (.inr e:Pr α) f = .inr e:=rfl
abbrev Fv (W:wD) (b:Nat) (k:Int) (nm:bA) (na:oA) (nl nc:Nat) (ka:oA) (kl kc:Nat):Prop :=
 W.cell? (aP b 0)=some (iP k)/\W.cell? (aP b 1)=some (.string nm)/\W.cell? (aP b 2)=some (.slice na nl nc)/\W.cell? (aP b 3)=some (.slice ka kl kc)
section
variable {W : wD} {b c : Nat} {k : Int} {nm : bA} {na : oA} {nl nc : Nat} {ka : oA} {kl kc : Nat}
theorem Fv.alloc (h:Fv W b k nm na nl nc ka kl kc) (A:b<W.heap.size) (o:Obj):Fv (W.alloc o) b k nm na nl nc ka kl kc:=by
 have z:∀ j,(W.alloc o).cell? (aP b j)=W.cell? (aP b j):=fun j=>World.cell?_of_block (w:=W) (a:=aP b j) (xA A)
 exact⟨(z 0).trans h.1,(z 1).trans h.2.1,(z 2).trans h.2.2.1,(z 3).trans h.2.2.2⟩
theorem Fv.set4 (h:Fv W b k nm na nl nc ka kl kc) (I:b≠c) (A F H C:vL):Fv ((((W.setCell (aP c 0) A).setCell (aP c 1) F).setCell (aP c 2) H).setCell (aP c 3) C) b k nm na nl nc ka kl kc:=by
 have z:∀ j,((((W.setCell (aP c 0) A).setCell (aP c 1) F).setCell (aP c 2) H).setCell (aP c 3) C).cell? (aP b j)=W.cell? (aP b j):=fun j=>World.cell?_of_block (w:=W) (a:=aP b j) (Q1 I _ _ _ _)
 exact⟨(z 0).trans h.1,(z 1).trans h.2.1,(z 2).trans h.2.2.1,(z 3).trans h.2.2.2⟩
end
def lW (W:wD) (b:Nat):Prop:=(c4 W b (iP 0) sP nP nP) /\
 (W.frozen? (aP b 0)=false/\W.frozen? (aP b 1)=false/\W.frozen? (aP b 2)=false/\W.frozen? (aP b 3)=false)/\b<W.heap.size
theorem zeroT {W:wD} {b:Nat} (h:W.heap[b]?=some Ww):lW W b:=Yh h
theorem zjz {lo:Nat} {w:wD} {c1 c2:List vL} {D1 D2:Ty} (j:Yk lo w (.agg c1.toArray) D1) (C:Yk lo w (.agg c2.toArray) D2) (J:c1.length=4) (H:c2.length=4) (M:lo<=w.heap.size) :
  Yk lo (w.alloc (.cells (c1 ++ c2).toArray 94)) (.agg #[iP 6,sP,nP,lP w.heap.size 2 2]) (Y7 6 [] [] [D1,D2]):=by
 obtain⟨A,j⟩:=j
 obtain⟨z,C⟩:=C
 have F:∀ {v D m},K0 w lo m v D->K0 (w.alloc (.cells (c1 ++ c2).toArray 94)) lo m v D:=fun h=>mB h (by simp) fun i _ T=>xA T
 have I:=F (Rf j (Nat.le_max_left A z))
 have N:=F (Rf C (Nat.le_max_right A z))
 refine⟨max A z+1,6,⟨#[]⟩,none,0,some (aP w.heap.size 0),2,[],[D1,D2],rfl,rfl,by decide,by decide,(fun _ h=>nomatch h),⟨xR,xZ _⟩,⟨xR,(by show 2<=_; decide)⟩,.inl rfl,.inr ⟨w.heap.size,0,rfl,M,⟨_,_,xL _ _⟩,fun i O=>?_⟩⟩
 match c1,J,c2,H with
 | [x0,x1,x2,x3],_,[y0,y1,y2,y3],_ =>
  match i,O with
  | 0,_=>exact⟨x0,x1,x2,x3,by rw [cell_of_row _ _ _ _ _ _ (xL w _)]; rfl,by rw [cell_of_row _ _ _ _ _ _ (xL w _)]; rfl,by rw [cell_of_row _ _ _ _ _ _ (xL w _)]; rfl,by rw [cell_of_row _ _ _ _ _ _ (xL w _)]; rfl,I⟩
  | 1,_=>exact⟨y0,y1,y2,y3,by rw [cell_of_row _ _ _ _ _ _ (xL w _)]; rfl,by rw [cell_of_row _ _ _ _ _ _ (xL w _)]; rfl,by rw [cell_of_row _ _ _ _ _ _ (xL w _)]; rfl,by rw [cell_of_row _ _ _ _ _ _ (xL w _)]; rfl,N⟩
theorem iE (pb tb cap d n:Nat) (ts:List Tok) (ih:∀ a w,Ps w pb tb cap ts a (d+1)->Calls prog 106 #[qP pb] w (Ya pb tb cap ts (d+1) w Yk (Wg ts ts.length n (d+1) a)))
  (a:Nat) (w:wD) (h:Ps w pb tb cap ts a (d+1)) (ok:Ym ts) :
  Calls prog 115 #[qP pb] w (Ya pb tb cap ts (d+1) w Yk ((Jv ts (Wg ts ts.length n (d+1)) ts.length a).go fun t a=>if Zg ts a [45,62] then(Wg ts ts.length n (d+1) (a+1)).go fun r a => .inl (Y7 6 [] [] [t,r],a)else .inl (t,a))):=by
 have H:=Za h
 have OK:=Za ok
 have HI:=Za ih
 obtain⟨f,hf⟩:∃ f,f+1=ts.length:=⟨ts.length - 1,by have:=ok.pos; omega⟩
 have HA:=Za (alt_c pb tb cap (d+1) ts (Wg ts ts.length n (d+1)) ⟨ih,fE pb,fun a x b hx=>zJ hx⟩ f a hf (w.alloc Ww) (h.alloc _) ok)
 rw [hf] at HA
 obtain⟨R,hR⟩:=xE (((Jv ts (Wg ts ts.length n (d+1)) ts.length a).go fun t a=>if Zg ts a [45,62] then(Wg ts ts.length n (d+1) (a+1)).go fun r a => .inl (Y7 6 [] [] [t,r],a)else .inl (t,a)))
 rw [<- hR]
 have V8:=Za hR
 clear h ok ih hR
 go_enter func115,ntmps115
 go_wp2_with fail
 refine HA.o.mono ?_
 rintro e w1 ⟨N,Zh⟩
 have Zx:=Za ((Zl.of H.o.ltp (Zq _ _)).trans N)
 have HR:=Za ((N.keep _ H.o.ltp (by simp)).trans (xL w _))
 clear N
 rcases hA:Jv ts (Wg ts ts.length n (d+1)) ts.length a with⟨D,b⟩ | ⟨er,li,co⟩
 case inr =>
  rw [hA] at Zh
  have HE:xQ (R = .inr (er,li,co)):=by show _=_; simp only [V8.o,hA,sI]
  subst Zh;clear hA;go_wp2_with fail;exact⟨rfl,Zx.o,by rw [HE.o]⟩
 rw [hA] at Zh
 obtain⟨Zc,v,rfl,hv⟩:=Zh
 obtain⟨k1,j,F,C,J,M,I,z,rfl⟩:=hv.cells
 have HRA:xQ (R=if Zg ts b [45,62] then(Wg ts ts.length n (d+1) (b+1)).go fun r a => .inl (Y7 6 [] [] [D,r],a)else .inl (D,b)):=by show _=_; simp only [V8.o,hA,Fo]
 have HP:=Za Zc
 have HT:=Za hv
 clear Zc hv hA V8
 go_wp2_with fail
 refine(Ta pb tb cap b (d+1) ts [45,62] _ (HP.o.alloc _) OK.o).mono ?_
 rintro e w2 ⟨rfl,N,Zc⟩
 have Zy:=Za ((N.keep _ H.o.ltp (by have:=xB HR.o; simp; omega)).trans ((xA (xB HR.o)).trans HR.o))
 have Ri:=Za ((Zx.o.alloc H.o.ltp _).trans N)
 have HT2:=Za ((HT.o.alloc _).stay N (by have:=H.o.ltp; simp; omega))
 have O:=Za ((N.keep w1.heap.size HP.o.ltp (by simp)).trans (xL w1 _))
 clear N
 cases hs:Zg ts b [45,62] with
 | false =>
  rw [hs,if_neg (by simp)] at Zc;have Gw:=Za Zc
  have HE:xQ (R = .inl (D,b)):=by rw [HRA.o,if_neg (by simp [hs])]; exact rfl
  obtain⟨⟨r0,r1,r2,r3⟩,⟨f0,f1,f2,f3⟩,Yw⟩:=Yh Zy.o;obtain⟨⟨b0,b1,b2,b3⟩,_,Sw⟩:=Yh O.o
  have Z1:¬ w1.heap.size=w.heap.size:=by have:=xB HR.o; omega
  clear Zc hs;go_wp2_with fail;rw [HE.o];refine r94 rfl rfl (set4 Zy.o _ _ _ _) rfl ⟨Q6 Ri.o H.o.ltp (xR) _ _ _ _,Jk Gw.o H.o.ltp _ _ _ _,_,rfl,?_⟩;exact(HT2.o.set4 (by simp) _ _ _ _).lower (by simp)
 | true =>
  rw [hs,if_pos rfl] at Zc;have Gw:=Za Zc
  have HRB:xQ (R=(Wg ts ts.length n (d+1) (b+1)).go fun r a => .inl (Y7 6 [] [] [D,r],a)):=by rw [HRA.o,if_pos hs]; exact rfl
  have HAft:xQ (∀ wa A,wa.heap=w2.heap->Zl pb wa A->Fv A w1.heap.size k1 j F C J M I z/\A.heap[w.heap.size]?=some Ww/\Yk (w.heap.size+1) A (.agg #[iP k1,.string j,.slice F C J,.slice M I z]) D):=by
   intro wa A e hs;have hl:=xB O.o;have Uo:=xB Zy.o;refine⟨(Yh ((hs.keep w1.heap.size HP.o.ltp (by rw [e]; exact hl)).trans (by rw [e]; exact O.o))).1,(hs.keep w.heap.size H.o.ltp (by rw [e]; exact Uo)).trans (by rw [e]; exact Zy.o),?_⟩
   have ht:Yk (w.heap.size+1) wa (.agg #[iP k1,.string j,.slice F C J,.slice M I z]) D:=(by simpa using HT2.o:Yk (w.heap.size+1) w2 _ D).keep (by rw [e]; exact xR) fun i _ _=>by rw [e]
   exact ht.stay hs (by have:=H.o.ltp; omega)
  have Uq:Fv w2.drew w1.heap.size k1 j F C J M I z:=(Yh O.o).1
  have HC:xQ (Calls prog 106 #[qP pb] w2.drew fun e A=>(∃ chain,e = .panicked chain/\Ya pb tb cap ts (d+1) w Yk R e A) ∨
    ∃ D2 b2 k4 nm4 Z nl4 nc4 Y T V,e = .returned (.agg #[iP k4,.string nm4,.slice Z nl4 nc4,.slice Y T V])/\Fv A w1.heap.size k1 j F C J M I z/\lW A w.heap.size/\xQ (∀ o,Fv (A.alloc o) w1.heap.size k1 j F C J M I z)/\xQ (∀ o x0 x1 x2 x3,Fv (((((A.setCell (aP w.heap.size 0) x0).setCell (aP w.heap.size 1) x1).setCell (aP w.heap.size 2) x2).setCell (aP w.heap.size 3) x3).alloc o) w1.heap.size k1 j F C J M I z)/\xQ (R = .inl (Y7 6 [] [] [D,D2],b2)/\Zl pb w A/\Ps A pb tb cap ts b2 (d+1) /\
     A.heap[w.heap.size]?=some Ww/\Yk (w.heap.size+1) A (.agg #[iP k1,.string j,.slice F C J,.slice M I z]) D/\Yk (w.heap.size+1) A (.agg #[iP k4,.string nm4,.slice Z nl4 nc4,.slice Y T V]) D2)):=by
   refine(HI.o (b+1) w2.drew Gw.o.drew).mono ?_;rintro e A ⟨N,Zh⟩;have Dq:=Ri.o.drew.trans N;obtain⟨g1,g2,g3⟩:=HAft.o w2.drew A (Eq.refl w2.heap) N;rcases hk:Wg ts ts.length n (d+1) (b+1)with⟨D2,b2⟩ | ⟨er,li,co⟩
   ·rw [hk] at Zh
    obtain⟨Zc,v,rfl,hv⟩:=Zh;obtain⟨k4,nm4,Z,nl4,nc4,Y,T,V,rfl⟩:=hv.cells;exact .inr ⟨D2,b2,_,_,_,_,_,_,_,_,rfl,g1,zeroT g2,(fun o=>g1.alloc (xT (xB O.o) N.size) o),(fun o x0 x1 x2 x3=>(g1.set4 (by have:=xB HR.o; omega) x0 x1 x2 x3).alloc (by rw [Ak]; exact xT (xB O.o) N.size) o),by rw [HRB.o,hk]; rfl,Dq,Zc,g2,g3,hv.lower (xB Zy.o)⟩
   ·rw [hk] at Zh
    subst Zh;exact .inl ⟨_,rfl,Dq,by rw [HRB.o,hk]; rfl⟩
  clear Zc hs;unfold Fv at Uq
  have Z1:¬ w1.heap.size=w.heap.size:=by have:=xB HR.o; omega
  have hne':¬ w.heap.size=w1.heap.size:=by have:=xB HR.o; omega
  go_wp2_with fail
  go_region_held (fun W=>c4 W w1.heap.size (iP k1) (.string j) (.slice F C J) (.slice M I z)) (first | with_reducible assumption | with_reducible exact Vs.o _ | with_reducible exact Wm.o _ _ _ _ _) (first
   | (go_at_call 106; refine HC.o.mono ?_; rintro e A (⟨ch,rfl,hf⟩ | ⟨D2,b2,k4,nm4,Z,nl4,nc4,Y,T,V,rfl,t5,t6,Vs,Wm,HX⟩); exact⟨rfl,hf⟩; unfold Fv at t5; obtain⟨⟨r0,r1,r2,r3⟩,⟨f0,f1,f2,f3⟩,hl4⟩:=t6))
  all_goals
   go_wp2_with fail;obtain⟨e1,e2,e3,e4,e5,e6⟩:=HX.o;rw [e1];have Zt:w.heap.size<A.heap.size:=xB e4;refine r94 rfl rfl ((xA (by rw [Ak]; exact Zt)).trans (set4 e4 _ _ _ _)) rfl ⟨(Q6 e2 H.o.ltp (xR) _ _ _ _).alloc H.o.ltp _,(Jk e3 H.o.ltp _ _ _ _).alloc _,_,rfl,?_⟩;have hf:=zjz (c1:=[iP k1,.string j,.slice F C J,.slice M I z]) (c2:=[iP k4,.string nm4,.slice Z nl4 nc4,.slice Y T V]) (e5.set4 (b:=w.heap.size) (xU _) (iP 6) sP nP (lP A.heap.size 2 2)) (e6.set4 (xU _) _ _ _ _) rfl rfl (by rw [Ak]; exact Zt)
   rw [Ak] at hf;exact hf.lower (Nat.le_succ _)
theorem zkz (pb tb cap a d g:Nat) (ts:List Tok) (r:Pr Ty) (hd:d<100) (V:∀ w,Ps w pb tb cap ts a (d+1)->Calls prog g #[qP pb] w (Ya pb tb cap ts (d+1) w Yk r)) (U4:Lh g pb)
  (w:wD) (h:Ps w pb tb cap ts a d) :
  Calls prog 114 #[qP pb,.func (.func g) #[] #[]] w (Ya pb tb cap ts d w Yk r):=by
 have H:=Za h
 have HG:=Za V
 have A:=h.ltp
 obtain⟨c0,c1,c2⟩:=h.cells
 have M:=h.fz 2
 have Tj:((d:Int) == 100)=false:=by simp; omega
 clear h V
 go_enter func114,ntmps114
 go_wp2_with fail
 rw [show((d:Int)+1)=((d+1:Nat):Int) by omega]
 refine(HG.o _ ((H.o.setDeep (d+1)).alloc _)).mono ?_
 rintro e w1 ⟨I,Y⟩
 have J:xQ (Zl pb w w1):=(((Zl.refl pb w).set 2 _).alloc A _).trans I
 have O:=Za ((I.keep w.heap.size A (by simp [World.setCell])).trans (gG w _ _ _))
 have C:xQ (∀ x,Ya pb tb cap ts (d+1) ((w.setCell (aP pb 2) (iP ((d+1:Nat):Int))).alloc Ww) Yk (.inl x) e w1->Ps w1 pb tb cap ts x.2 (d+1)/\∃ v,e = .returned v/\Yk (w.heap.size+1) w1 v x.1):=by
  rintro⟨x,b⟩ ⟨_,h1,v,h2,N⟩;refine⟨h1,v,h2,?_⟩
  have:((w.setCell (aP pb 2) (iP ((d+1:Nat):Int))).alloc Ww).heap.size=w.heap.size+1:=by simp [World.setCell]
  rw [this] at N;exact N
 have j:xQ (Ya pb tb cap ts (d+1) ((w.setCell (aP pb 2) (iP ((d+1:Nat):Int))).alloc Ww) Yk r e w1):=⟨I,Y⟩
 clear I Y
 rcases r with⟨D,b⟩ | ⟨er,li,co⟩
 case inr =>
  obtain⟨_,rfl⟩:=j.o;go_wp2_with fail;exact⟨rfl,J.o,rfl⟩
 obtain⟨T,v,rfl,hv⟩:=C.o _ j.o
 obtain⟨k1,nm1,na1,nl1,nc1,ka1,kl1,kc1,rfl⟩:=hv.cells
 have F:=Za T
 have Z:=Za hv
 clear T hv j C c0 c1 c2 M
 obtain⟨c0,c1,c2⟩:=F.o.cells
 have M:=F.o.fz 2
 have Mk:=F.o.ltp
 obtain⟨⟨r0,r1,r2,r3⟩,⟨f0,f1,f2,f3⟩,Yw⟩:=Yh O.o
 have hpw:¬ pb=w.heap.size:=by omega
 have z:¬ w.heap.size=pb:=by omega
 have Z1:¬ w1.heap.size=w.heap.size:=by omega
 have hne':¬ w1.heap.size=pb:=by omega
 go_wp2_with fail
 refine r94 rfl rfl ((xA (by rw [Ak,Yg]; exact Yw)).trans (set4 ((xH z).trans O.o) _ _ _ _)) rfl ⟨(Q6 (J.o.set 2 _) A (xR) _ _ _ _).alloc A _,(Jk (F.o.setDeep d) A _ _ _ _).alloc _,_,rfl,?_⟩
 exact(((Z.o.set1 (by omega) _ _).set4 (xU _) _ _ _ _).alloc _).lower (Nat.le_succ _)
theorem zla (pb tb cap a g:Nat) (ts:List Tok) (w:wD) (h:Ps w pb tb cap ts a 100) :
  Calls prog 114 #[qP pb,.func (.func g) #[] #[]] w (Ya pb tb cap ts 100 w Yk (Vj ts 6 a)):=by
 have H:=Za h
 have A:=h.ltp
 obtain⟨c0,c1,c2⟩:=h.cells
 clear h
 go_enter func114,ntmps114
 go_wp2_with fail
 refine(yA pb tb cap a 100 ts _ (H.o.alloc _) 6).mono ?_
 rintro e w2 ⟨rfl,j⟩
 have z:=Za (Zz (Zq _ _) j)
 clear j
 go_wp2_with fail
 exact⟨rfl,Zl.of A z.o,rfl⟩
theorem iF (pb:Nat):Lh 115 pb:=fun w=>K8 func115 (by kernel_rfl) (by kernel_rfl) _ w
theorem jZ (pb tb cap d:Nat) (ts:List Tok) (r:Pr Ty) (w:wD) (F:∀ w1,Below w.heap.size w w1->Calls prog 114 #[qP pb,.func (.func 115) #[] #[]] w1 (Ya pb tb cap ts d w1 Yk r)) (h:pb<w.heap.size) :
  Calls prog 106 #[qP pb] w (Ya pb tb cap ts d w Yk r):=by
 have J:=Za F
 clear F
 go_enter func106,ntmps106
 go_wp2_with fail
 refine(J.o _ (Zq _ _)).mono ?_
 rintro e w1 ⟨j,H⟩
 have z:=Za ((Zl.of h (Zq _ _)).trans j)
 have A:=Za ((j.keep _ h (by simp)).trans (xL w _))
 clear j
 rcases r with⟨D,b⟩ | ⟨er,li,co⟩
 case inr =>
  subst H;go_wp2_with fail;exact⟨rfl,z.o,rfl⟩
 obtain⟨C,v,rfl,hv⟩:=H
 obtain⟨k1,nm1,na1,nl1,nc1,ka1,kl1,kc1,rfl⟩:=hv.cells
 have M:=Za C
 have I:=Za hv
 obtain⟨⟨r0,r1,r2,r3⟩,⟨f0,f1,f2,f3⟩,Yw⟩:=Yh A.o
 clear C hv
 go_wp2_with fail
 refine r94 rfl rfl (set4 A.o _ _ _ _) rfl ⟨Q6 z.o h (xR) _ _ _ _,Jk M.o h _ _ _ _,_,rfl,?_⟩
 exact(I.o.set4 (by simp) _ _ _ _).lower (by simp)
theorem fD (pb tb cap:Nat) (ts:List Tok) (C:Ym ts):∀ (n d a:Nat) (w:wD),d+n=101->d<=100->Ps w pb tb cap ts a d ->
  Calls prog 106 #[qP pb] w (Ya pb tb cap ts d w Yk (Wg ts ts.length n d a))
 | 0,d,_,_,h1,j,_=>absurd h1 (by omega)
 | n+1,d,a,w,h1,j,h=>by
  rw [Wg];by_cases A:100<=d
  ·obtain rfl:d=100:=by omega
   rw [if_pos A];exact jZ pb tb cap 100 ts _ w (fun w1 z=>zla pb tb cap a _ ts w1 (h.below z)) h.ltp
  ·rw [if_neg A]
   exact jZ pb tb cap d ts _ w (fun w1 z=>zkz pb tb cap a d _ ts _ (by omega) (fun w2 j=>iE pb tb cap d n ts (fun a w h=>fD pb tb cap ts C n (d+1) a w (by omega) (by omega) h) a w2 j C) (iF pb) w1 (h.below z)) h.ltp
end
section
variable {w w' : wD} {lo lo' n m : Nat} {x : NV} {D : Ty} {ka : oA} {ks : List Ty} {a : oA} {ns : List (bS)}
theorem xV (h:Bb w lo a ns) (hl:lo'<=lo):Bb w lo' a ns:=by
 rcases h with h | ⟨b,o,e,hb,r⟩
 ·exact .inl h
 ·exact .inr ⟨b,o,e,by omega,r⟩
theorem zI (h:Qk w lo n ka ks) (J:lo'<=lo):Qk w lo' n ka ks:=by
 rcases h with h | ⟨b,o,e,hb,A,r⟩
 ·exact .inl h
 ·refine .inr ⟨b,o,e,by omega,A,fun i H=>?_⟩
  obtain⟨c0,c1,c2,c3,j,I,z,C,F⟩:=r i H;exact⟨c0,c1,c2,c3,j,I,z,C,lA F J⟩
theorem uC (h:Qk w lo n ka ks) (hm:n<=m):Qk w lo m ka ks:=by
 rcases h with h | ⟨b,o,e,H,A,r⟩
 ·exact .inl h
 ·refine .inr ⟨b,o,e,H,A,fun i I=>?_⟩
  obtain⟨c0,c1,c2,c3,j,J,z,C,F⟩:=r i I;exact⟨c0,c1,c2,c3,j,J,z,C,Rf F hm⟩
theorem zep (h:Hv w lo n x D) (z:lo'<=lo):Hv w lo' n x D:=by
 induction n generalizing x D with
 | zero=>exact h.elim
 | succ n ih =>
  obtain⟨tys,ns,ks,e,A,N,F,I,j⟩:=h;refine⟨tys,ns,ks,e,A,N,zI F z,xV I z,?_⟩;rcases j with j | ⟨b,o,e,hb,O,C⟩
  ·exact .inl j
  ·refine .inr ⟨b,o,e,by omega,O,fun i M=>?_⟩
   obtain⟨y,J,H⟩:=C i M;exact⟨y,J,ih H⟩
theorem Ee (h:Hv w lo n x D) (hm:n<=m):Hv w lo m x D:=by
 induction n generalizing m x D with
 | zero=>exact h.elim
 | succ n ih =>
  obtain⟨m,rfl⟩:∃ p,m=p+1:=⟨m - 1,by omega⟩
  obtain⟨tys,ns,ks,e,z,N,C,H,j⟩:=h;refine⟨tys,ns,ks,e,z,N,uC C (by omega),H,?_⟩;rcases j with j | ⟨b,o,e,J,O,A⟩
  ·exact .inl j
  ·refine .inr ⟨b,o,e,J,O,fun i M=>?_⟩
   obtain⟨y,I,F⟩:=A i M;exact⟨y,I,ih F (by omega)⟩
end
def Y0 (lo:Nat) (w:wD) (x:NV) (D:Ty):Prop:=∃ m,Hv w lo m x D
def Z6 (lo:Nat) (w:wD) (v:vL) (D:Ty):Prop:=∃ x:NV,v=x.val/\Y0 lo w x D
abbrev put8 (w:wD) (b:Nat) (x:NV):wD:=(((((((w.setCell (aP b 0) (iP x.k)).setCell (aP b 1) (.string x.tx)).setCell (aP b 2) (iP x.N)).setCell (aP b 3) (iP x.li)).setCell (aP b 4) (iP x.co)).setCell (aP b 5) (.slice x.ta x.tl x.tc)).setCell (aP b 6) (.slice x.na x.nl x.nc)).setCell (aP b 7) (.slice x.ka x.kl x.kc)
abbrev Zj:NV:=⟨0,⟨#[]⟩,0,0,0,none,0,0,none,0,0,none,0,0⟩
section
variable {w w' : wD} {lo lo' b pb : Nat} {x y : NV} {D : Ty}
theorem Wv (h:w.heap[b]?=some y.obj):(put8 w b x).heap[b]?=some x.obj:=by
 have J:=Y1 (o:=0) (u:=iP x.k) h
 simp only [List.setIfInBounds_toArray,List.set_cons_zero] at J
 have A:=Y1 (o:=1) (u := .string x.tx) J
 simp only [List.setIfInBounds_toArray,List.set_cons_zero,List.set_cons_succ] at A
 have I:=Y1 (o:=2) (u:=iP x.N) A
 simp only [List.setIfInBounds_toArray,List.set_cons_zero,List.set_cons_succ] at I
 have z:=Y1 (o:=3) (u:=iP x.li) I
 simp only [List.setIfInBounds_toArray,List.set_cons_zero,List.set_cons_succ] at z
 have H:=Y1 (o:=4) (u:=iP x.co) z
 simp only [List.setIfInBounds_toArray,List.set_cons_zero,List.set_cons_succ] at H
 have F:=Y1 (o:=5) (u := .slice x.ta x.tl x.tc) H
 simp only [List.setIfInBounds_toArray,List.set_cons_zero,List.set_cons_succ] at F
 have C:=Y1 (o:=6) (u := .slice x.na x.nl x.nc) F
 simp only [List.setIfInBounds_toArray,List.set_cons_zero,List.set_cons_succ] at C
 have j:=Y1 (o:=7) (u := .slice x.ka x.kl x.kc) C
 simp only [List.setIfInBounds_toArray,List.set_cons_zero,List.set_cons_succ] at j
 exact j
theorem Nt:(put8 w b x).heap.size=w.heap.size:=by
 unfold put8
 rw [Yg,Yg,Yg,Yg,Yg,Yg,Yg,Yg]
theorem N7 {i:Nat} (h:i≠b):(put8 w b x).heap[i]?=w.heap[i]?:=by
 unfold put8
 rw [xH h,xH h,xH h,xH h,xH h,xH h,xH h,xH h]
theorem Wy (h:Zl pb w w') (z:pb<w.heap.size) (j:w.heap.size<=b) (x:NV):Zl pb w (put8 w' b x) :=
 (((((((h.own z j 0 _).own z j 1 _).own z j 2 _).own z j 3 _).own z j 4 _).own z j 5 _).own z j 6 _).own z j 7 _
theorem Ve {tb cap a d:Nat} {ts:List Tok} (h:Ps w pb tb cap ts a d) (j:pb<b) (x:NV):Ps (put8 w b x) pb tb cap ts a d :=
 (((((((h.other j 0 _).other j 1 _).other j 2 _).other j 3 _).other j 4 _).other j 5 _).other j 6 _).other j 7 _
theorem oI {B:Nat} {u:wD} (h:Below B u w) (j:B<=b) (x:NV):Below B u (put8 w b x) :=
 (((((((h.setCell j _).setCell j _).setCell j _).setCell j _).setCell j _).setCell j _).setCell j _).setCell j _
theorem Y0.keep (h:Y0 lo w x D) (z:w.heap.size<=w'.heap.size) (j:∀ b,lo<=b->b<w.heap.size->w'.heap[b]?=w.heap[b]?):Y0 lo w' x D:=by
 obtain⟨m,h⟩:=h
 exact⟨m,nW h z j⟩
theorem Y0.lower (h:Y0 lo w x D) (j:lo'<=lo):Y0 lo' w x D:=by
 obtain⟨m,h⟩:=h
 exact⟨m,zep h j⟩
theorem Y0.stay (h:Y0 lo w x D) (j:Zl pb w w') (hp:pb<lo):Y0 lo w' x D:=h.keep j.size fun b hb z=>j.keep b (by omega) z
theorem Y0.below (h:Y0 lo w x D) (j:Below w.heap.size w w'):Y0 lo w' x D:=h.keep j.size fun b _ z=>j.block b z
theorem Y0.put8 (h:Y0 lo w x D) (hb:b<lo) (y:NV):Y0 lo (put8 w b y) x D:=h.keep (by rw [Nt]; exact xR) fun i hi _=>N7 (by omega)
theorem Y0.alloc (h:Y0 lo w x D) (o:Obj):Y0 lo (w.alloc o) x D:=h.keep (by simp) fun i _ j=>xA j
theorem Y0.set1 (h:Y0 lo w x D) (hb:b<lo) (o:Nat) (u:vL):Y0 lo (w.setCell (aP b o) u) x D :=
 h.keep (by rw [Yg]; exact xR) fun i hi _=>xH (by show i≠b; omega)
theorem Y0.place (h:Y0 lo w x D) (li co:Nat):∃ k tx N l c tys ns ks,D=Zp k tx N l c tys ns ks/\Y0 lo w { x with li:=li,co:=co } (Zp k tx N li co tys ns ks):=by
 obtain⟨m,h⟩:=h
 cases m with
 | zero=>exact h.elim
 | succ m =>
  obtain⟨tys,ns,ks,e,z,F,j,C,A⟩:=h;exact⟨_,_,_,_,_,_,_,_,e,m+1,tys,ns,ks,rfl,z,F,j,C,A⟩
end
theorem zbh (w:wD) (j z h:Obj):(((w.alloc j).alloc z).alloc h).heap[w.heap.size+1+1]?=some h:=by
 have:=xL ((w.alloc j).alloc z) h
 simpa using this
theorem zbj (w:wD) (z A C j h:Obj):(((((w.alloc z).alloc A).alloc C).alloc j).alloc h).heap[w.heap.size+1+1+1+1]?=some h:=by
 have:=xL ((((w.alloc z).alloc A).alloc C).alloc j) h
 simpa using this
theorem zbi (w:wD) (j z A h C:Obj):(((((w.alloc j).alloc z).alloc A).alloc h).alloc C).heap[w.heap.size+1+1+1]?=some h:=by
 refine(xA (by simp)).trans ?_
 have:=xL (((w.alloc j).alloc z).alloc A) h
 simpa using this
def wU (W:wD) (b:Nat) (x:NV):Prop :=
 (W.cell? (aP b 0)=some (iP x.k)/\W.cell? (aP b 1)=some (.string x.tx)/\W.cell? (aP b 2)=some (iP x.N)/\W.cell? (aP b 3)=some (iP x.li)/\W.cell? (aP b 4)=some (iP x.co) /\
 W.cell? (aP b 5)=some (.slice x.ta x.tl x.tc)/\W.cell? (aP b 6)=some (.slice x.na x.nl x.nc)/\W.cell? (aP b 7)=some (.slice x.ka x.kl x.kc)) /\
 (W.frozen? (aP b 0)=false/\W.frozen? (aP b 1)=false/\W.frozen? (aP b 2)=false/\W.frozen? (aP b 3)=false/\W.frozen? (aP b 4)=false/\W.frozen? (aP b 5)=false/\W.frozen? (aP b 6)=false/\W.frozen? (aP b 7)=false)/\b<W.heap.size
theorem Zn {W:wD} {b:Nat} {x:NV} (h:W.heap[b]?=some x.obj):wU W b x:=by
 refine⟨⟨?_,?_,?_,?_,?_,?_,?_,?_⟩,⟨?_,?_,?_,?_,?_,?_,?_,?_⟩,xB h⟩
 all_goals first | (rw [cell_of_row _ _ _ _ _ _ h]; rfl) | simp [World.frozen?,h]
theorem L7 (t:Tok) (x:NV) (w:wD):Calls prog 123 #[Cv t,x.val] w fun e w'=>e = .returned (NV.val { x with li:=t.line,co:=t.col })/\Below w.heap.size w w':=by
 obtain⟨k,tx,li,co⟩:=t
 obtain⟨xk,xt,xN,xl,xc,a1,a2,a3,b1,b2,b3,c1,c2,c3⟩:=x
 go_enter func123,ntmps123
 go_wp2_with fail
 go_region
 all_goals
  go_wp2_with fail;refine bodyPost_ret (results_cell_row rfl _ _ (w.heap.size+1+1) 64 _ (0,0) _ rfl (zbh _ _ _ _) underlying64 rfl (by kernel_rfl)) rfl ⟨rfl,?_⟩;exact((((Below.refl _ w).alloc (xR) _).alloc (by simp) _).alloc (by simp; omega) _).drew
abbrev M6 (t:Tok) (kb:Nat):NV:=⟨14,⟨t.text.toArray⟩,0,t.line,t.col,none,0,0,none,0,0,some (aP kb 0),2,2⟩
theorem dY (t:Tok) (x y:NV) (w:wD):Calls prog 130 #[Cv t,x.val,y.val] w fun e w'=>∃ kb,e = .returned (M6 t kb).val/\Below w.heap.size w w'/\w.heap.size<=kb/\w'.heap[kb]?=some (.cells #[iP x.k,.string x.tx,iP x.N,iP x.li,iP x.co,.slice x.ta x.tl x.tc,.slice x.na x.nl x.nc,.slice x.ka x.kl x.kc,iP y.k,.string y.tx,iP y.N,iP y.li,iP y.co,.slice y.ta y.tl y.tc,.slice y.na y.nl y.nc,.slice y.ka y.kl y.kc] 64):=by
 obtain⟨k,h,li,co⟩:=t
 obtain⟨xk,xt,xN,xl,xc,a1,a2,a3,b1,b2,b3,c1,c2,c3⟩:=x
 obtain⟨yk,yt,yN,yl,yc,d1,d2,d3,e1,e2,e3,f1,f2,f3⟩:=y
 obtain⟨o1,z⟩:∃ o:Obj,o = .cells #[iP k,uP h,iP li,iP co] 121:=⟨_,rfl⟩
 have J:=Za (fun F=>L7 ⟨k,h,li,co⟩ ⟨14,⟨h.toArray⟩,0,0,0,none,0,0,none,0,0,some (aP (w.heap.size+1+1+1+1) 0),2,2⟩ F)
 clear z
 go_enter func130,ntmps130
 go_wp2_with fail
 refine(J.o _).mono ?_
 rintro e w1 ⟨rfl,j⟩
 have I:xQ (Below w.heap.size w w1):=Zz (Zz (Zz (Zz (Zz (Zq _ _) (Zq _ _)) (Zq _ _)) (Zq _ _)) (Zq _ _)) j
 have H:=Za ((j.block (w.heap.size+1+1+1+1) (by simp)).trans (zbj w _ _ _ _ _))
 have A:=(j.block (w.heap.size+1+1+1) (by simp)).trans (zbi w _ _ _ _ _)
 have C:xQ (w1.heap[w.heap.size+1+1+1]?=some Zj.obj):=A
 obtain⟨⟨r0,r1,r2,r3,r4,r5,r6,r7⟩,⟨f0,f1',f2',f3',f4,f5,f6,f7⟩,Yw⟩:=Zn C.o
 clear j A
 go_wp2_with fail
 refine bodyPost_ret (results_cell_row rfl _ _ (w.heap.size+1+1+1) 64 _ (0,0) _ rfl (Wv (x:=M6 ⟨k,h,li,co⟩ (w.heap.size+1+1+1+1)) C.o) underlying64 rfl (by kernel_rfl)) rfl ⟨w.heap.size+1+1+1+1,rfl,?_,by omega,?_⟩
 ·exact oI (x:=M6 ⟨k,h,li,co⟩ (w.heap.size+1+1+1+1)) I.o (by omega)
 ·exact(N7 (x:=M6 ⟨k,h,li,co⟩ (w.heap.size+1+1+1+1)) (by omega)).trans H.o
theorem Dv {lo kb:Nat} {w:wD} {x y:NV} {D1 D2:Ty} (j:Y0 lo w x D1) (C:Y0 lo w y D2) (h:w.heap[kb]?=some (.cells #[iP x.k,.string x.tx,iP x.N,iP x.li,iP x.co,.slice x.ta x.tl x.tc,.slice x.na x.nl x.nc,.slice x.ka x.kl x.kc,iP y.k,.string y.tx,iP y.N,iP y.li,iP y.co,.slice y.ta y.tl y.tc,.slice y.na y.nl y.nc,.slice y.ka y.kl y.kc] 64)) (J:lo<=kb)
  (z:NV) (tys:List Ty) (ns:List (bS)) (F:z.ka=some (aP kb 0)/\z.kl=2) (M:z.tl=tys.length/\tys.length<=100000/\∃ m,Qk w lo m z.ta tys) (A:z.nl=ns.length/\ns.length<=100000/\Bb w lo z.na ns) :
  Y0 lo w z (Zp z.k z.tx.data.toList z.N z.li z.co tys ns [D1,D2]):=by
 obtain⟨Z,j⟩:=j
 obtain⟨I,C⟩:=C
 obtain⟨V,Y,O,H⟩:=M
 refine⟨max (max Z I) O+1,tys,ns,[D1,D2],rfl,⟨V,A.1,F.2⟩,⟨Y,A.2.1,(by show 2<=_; omega)⟩,uC H (Nat.le_max_right _ _),A.2.2,.inr ⟨kb,0,F.1,J,⟨_,_,h⟩,fun i T=>?_⟩⟩
 match i,T with
 | 0,_=>exact⟨x,⟨by rw [cell_of_row _ _ _ _ _ _ h]; rfl,by rw [cell_of_row _ _ _ _ _ _ h]; rfl,by rw [cell_of_row _ _ _ _ _ _ h]; rfl,by rw [cell_of_row _ _ _ _ _ _ h]; rfl,by rw [cell_of_row _ _ _ _ _ _ h]; rfl,by rw [cell_of_row _ _ _ _ _ _ h]; rfl,by rw [cell_of_row _ _ _ _ _ _ h]; rfl,by rw [cell_of_row _ _ _ _ _ _ h]; rfl⟩,Ee j (Nat.le_trans (Nat.le_max_left _ _) (Nat.le_max_left _ _))⟩
 | 1,_=>exact⟨y,⟨by rw [cell_of_row _ _ _ _ _ _ h]; rfl,by rw [cell_of_row _ _ _ _ _ _ h]; rfl,by rw [cell_of_row _ _ _ _ _ _ h]; rfl,by rw [cell_of_row _ _ _ _ _ _ h]; rfl,by rw [cell_of_row _ _ _ _ _ _ h]; rfl,by rw [cell_of_row _ _ _ _ _ _ h]; rfl,by rw [cell_of_row _ _ _ _ _ _ h]; rfl,by rw [cell_of_row _ _ _ _ _ _ h]; rfl⟩,Ee C (Nat.le_trans (Nat.le_max_right _ _) (Nat.le_max_left _ _))⟩
theorem zex {lo kb:Nat} {w w':wD} {t:Tok} {x y:NV} {D1 D2:Ty} (j:Y0 lo w x D1) (A:Y0 lo w y D2) (h:Below w.heap.size w w') (z:lo<=kb) (C:w'.heap[kb]?=some (.cells #[iP x.k,.string x.tx,iP x.N,iP x.li,iP x.co,.slice x.ta x.tl x.tc,.slice x.na x.nl x.nc,.slice x.ka x.kl x.kc,iP y.k,.string y.tx,iP y.N,iP y.li,iP y.co,.slice y.ta y.tl y.tc,.slice y.na y.nl y.nc,.slice y.ka y.kl y.kc] 64)) :
  Y0 lo w' (M6 t kb) (Zp 14 t.text 0 t.line t.col [] [] [D1,D2]) :=
 Dv (j.below h) (A.below h) C z (M6 t kb) [] [] ⟨rfl,rfl⟩ ⟨rfl,xZ _,0,.inl rfl⟩ ⟨rfl,xZ _,.inl rfl⟩
section
attribute [local go_sem ↓] Go.wp_at_zero Go.wp_at_succ
def zZ (w:wD) (b:Nat) (o:Obj):wD:={ w with heap:=w.heap.setIfInBounds b o }
def Wb (lo nb:Nat) (w:wD) (x:NV) (D:Ty):Prop:=∀ o,Y0 lo (zZ w nb o) x D
section
variable {w w' : wD} {lo nb pb : Nat} {x y : NV} {D : Ty}
theorem wS (o:Obj):(zZ w nb o).heap.size=w.heap.size:=by simp [zZ]
theorem Rg (o:Obj) {i:Nat} (h:i≠nb):(zZ w nb o).heap[i]?=w.heap[i]?:=by
 unfold zZ
 simp only [Array.getElem?_setIfInBounds]
 rw [if_neg (fun e=>h e.symm)]
theorem lH (o:Obj) (h:nb<w.heap.size):(zZ w nb o).heap[nb]?=some o:=by
 unfold zZ
 simp [h]
theorem Wb.keep (h:Wb lo nb w x D) (z:nb<w.heap.size) (A:w.heap.size<=w'.heap.size) (C:∀ b,lo<=b->b<w.heap.size->b≠nb->w'.heap[b]?=w.heap[b]?):Wb lo nb w' x D:=fun o =>
 (h o).keep (by rw [wS,wS]; exact A) fun b F j=>by
  rw [wS] at j;by_cases e:b=nb
  ·subst e
   rw [lH o (by omega),lH o z]
  ·rw [Rg o e,Rg o e]
   exact C b F j e
theorem Wb.now (h:Wb lo nb w x D) (j:nb<w.heap.size):Y0 lo w x D:=by
 obtain⟨o,z⟩:∃ o,w.heap[nb]?=some o:=⟨_,Array.getElem?_eq_getElem j⟩
 refine(h o).keep (by rw [wS]; exact xR) fun b hb hl=>?_
 by_cases e:b=nb
 ·subst e
  rw [lH o j,z]
 ·rw [Rg o e]
theorem Wb.stay (h:Wb lo nb w x D) (A:nb<w.heap.size) (j:Zl pb w w') (hp:pb<lo):Wb lo nb w' x D:=h.keep A j.size fun b hb z _=>j.keep b (by omega) z
theorem Wb.below (h:Wb lo nb w x D) (A:nb<w.heap.size) (j:Below w.heap.size w w'):Wb lo nb w' x D:=h.keep A j.size fun b _ z _=>j.block b z
theorem Wb.alloc (h:Wb lo nb w x D) (j:nb<w.heap.size) (o:Obj):Wb lo nb (w.alloc o) x D:=h.below j (Zq _ _)
theorem Wb.put8 (h:Wb lo nb w x D) (j:nb<w.heap.size) (y:NV):Wb lo nb (put8 w nb y) x D:=h.keep j (by rw [Nt]; exact xR) fun b _ _ e=>N7 e
theorem qY (h:Y0 lo w x D) (o:Obj):Wb lo w.heap.size (w.alloc o) x D:=fun o' =>
 h.keep (by rw [wS]; simp) fun b _ j=>(Rg o' (by omega)).trans (xA j)
theorem qX {lo':Nat} (h:Y0 lo' w x D) (hl:nb<lo') (j:lo<=lo'):Wb lo nb w x D:=fun o =>
 (h.keep (by rw [wS]; exact xR) fun b hb _=>Rg o (by omega)).lower j
theorem zey {kb:Nat} {t:Tok} {D1 D2:Ty} (C:Wb lo nb w x D1) (F:Wb lo nb w y D2) (j:nb<w.heap.size) (z:Below w.heap.size w w') (A:lo<=kb) (h:kb≠nb) (H:w'.heap[kb]?=some (.cells #[iP x.k,.string x.tx,iP x.N,iP x.li,iP x.co,.slice x.ta x.tl x.tc,.slice x.na x.nl x.nc,.slice x.ka x.kl x.kc,iP y.k,.string y.tx,iP y.N,iP y.li,iP y.co,.slice y.ta y.tl y.tc,.slice y.na y.nl y.nc,.slice y.ka y.kl y.kc] 64)) :
  Wb lo nb w' (M6 t kb) (Zp 14 t.text 0 t.line t.col [] [] [D1,D2]):=fun o =>
 Dv (C.below j z o) (F.below j z o) ((Rg o h).trans H) A (M6 t kb) [] [] ⟨rfl,rfl⟩ ⟨rfl,xZ _,0,.inl rfl⟩ ⟨rfl,xZ _,.inl rfl⟩
end
theorem Hw.stay {w w1:wD} {j pb:Nat} {L:List (bS)} (h:Hw w j L) (z:Zl pb w w1) (C:pb<j):Hw w1 j L :=
 ⟨xT h.1 z.size,fun i A=>(World.cell?_of_block (w:=w) (a:=aP j i) (z.keep j C h.1)).trans (h.2 i A)⟩
def lI (W:wD) (b:Nat) (x:NV):Prop:=W.cell? (aP b 0)=some (iP x.k)/\W.cell? (aP b 1)=some (.string x.tx)/\W.cell? (aP b 2)=some (iP x.N)/\W.cell? (aP b 3)=some (iP x.li)/\W.cell? (aP b 4)=some (iP x.co) /\
 W.cell? (aP b 5)=some (.slice x.ta x.tl x.tc)/\W.cell? (aP b 6)=some (.slice x.na x.nl x.nc)/\W.cell? (aP b 7)=some (.slice x.ka x.kl x.kc)
def Wp (W:wD) (b:Nat) (t:Tok):Prop:=W.cell? (aP b 0)=some (iP t.kind)/\W.cell? (aP b 1)=some (uP t.text)/\W.cell? (aP b 2)=some (iP t.line)/\W.cell? (aP b 3)=some (iP t.col)
theorem Y8 {W:wD} {b:Nat} {t:Tok} (h:W.heap[b]?=some (.cells #[iP t.kind,uP t.text,iP t.line,iP t.col] 121)):Wp W b t:=(Yh h).1
def lU (pb tb cap d nb xb:Nat) (ts:List Tok) (L:List (bS)) (R:Pr Ty) (sub:Nat->Pr Ty) (m:Nat) (w:wD) (x:NV) (D:Ty) (t:Tok) (w4:wD) (y:NV) (D2:Ty) (b2:Nat):Prop :=
 R=Uw ts L sub m (Zp 14 t.text 0 t.line t.col [] [] [D,D2]) b2/\Zl pb w w4/\Ps w4 pb tb cap ts b2 d/\w4.heap[nb]?=some x.obj/\Wb (w.heap.size+1) nb w4 x D/\Wb (w.heap.size+1) nb w4 y D2/\w4.heap[w.heap.size]?=some Zj.obj/\Hw w4 xb L
theorem fI {ts:List Tok} {L:List (bS)} {sub:Nat->Pr Ty} {f a:Nat} {x:Ty} (h:(L.any fun s=>Zg ts a s)=false):Uw ts L sub (f+1) x a = .inl (x,a):=by
 rw [Uw]
 have:L.find? (Zg ts a)=none:=List.find?_eq_none.2 fun s j=>by
  have:=List.any_eq_false.1 h s j
  simpa using this
 rw [this]
theorem fJ {ts:List Tok} {L:List (bS)} {sub:Nat->Pr Ty} {f a:Nat} {x:Ty} (h:(L.any fun s=>Zg ts a s)=true):Uw ts L sub (f+1) x a=(sub (a+1)).go fun y b=>Uw ts L sub f (Zp 14 (Zk ts a).text 0 (Zk ts a).line (Zk ts a).col [] [] [x,y]) b:=by
 rw [Uw]
 obtain⟨s,C,F⟩:=List.any_eq_true.1 h
 have:(L.find? (Zg ts a)).isSome=true:=List.find?_isSome.2 ⟨s,C,F⟩
 obtain⟨q,A⟩:=Option.isSome_iff_exists.1 this
 have z:=List.find?_some A
 have j:q=(Zk ts a).text:=by
  unfold Zg at z;simp only [Bool.and_eq_true,beq_iff_eq] at z;exact z.2.symm
 rw [A,j]
 rfl
theorem uK (pb tb cap d F xc:Nat) (ts:List Tok) (L:List (bS)) (hl:L.length<=100) (g:Nat) (sub:Nat->Pr Ty) (hg:Xs pb tb cap d ts Z6 g sub)
  (a:Nat) (w:wD) (h:Ps w pb tb cap ts a d) (hL:Hw w F L) (Tu:pb<F) (ok:Ym ts) :
  Calls prog 124 #[qP pb,.func (.func g) #[] #[],lP F L.length xc] w (Ya pb tb cap ts d w Z6 ((sub a).go fun x a=>Uw ts L sub ts.length x a)):=by
 have H:=Za h
 have OK:=Za ok
 have HG:=Za hg
 have HL:=Za hL
 have U4:=hg.enters
 have M:=h.ltp
 obtain⟨R,hR⟩:=xE (((sub a).go fun x a=>Uw ts L sub ts.length x a))
 rw [<- hR]
 have V8:=Za hR
 clear h ok hg hL hR
 go_enter func124,ntmps124
 go_wp2_with fail
 refine(HG.o.calls a _ (H.o.alloc _)).mono ?_
 rintro e w1 ⟨j,O⟩
 have Zx:=Za ((Zl.of M (Zq _ _)).trans j)
 have V:=Za j
 have N:=Za ((j.keep _ M (by simp)).trans (xL w Zj.obj))
 clear j
 rcases hs:sub a with⟨D,b⟩ | ⟨er,li,co⟩
 case inr =>
  rw [hs] at O
  have HE:xQ (R = .inr (er,li,co)):=by show _=_; simp only [V8.o,hs,sI]
  subst O;clear hs;go_wp2_with fail;exact⟨rfl,Zx.o,by rw [HE.o]⟩
 rw [hs] at O
 obtain⟨Y,v,rfl,x,rfl,hv⟩:=O
 have C:xQ (R=Uw ts L sub ts.length D b):=by show _=_; simp only [V8.o,hs,Fo]
 have HP:=Za Y
 have HT:=Za hv
 have HU:=Za (HG.o.up _ _ _ hs)
 clear Y hv hs V8
 obtain⟨nb,Vc⟩:=xE w1.heap.size
 have HNb:=Za Vc
 have Wq:w.heap.size<nb:=by rw [Vc]; exact xB N.o
 have Pq:xQ (Wb (w.heap.size+1) nb (w1.alloc x.obj) x D):=by rw [Vc]; exact qY (by simpa using HT.o) _
 have HN0:xQ ((w1.alloc x.obj).heap[nb]?=some x.obj):=by rw [Vc]; exact xL _ _
 have Gz:xQ (Hw (w1.alloc x.obj) F L):=by
  have h1:=(HL.o.below (Zq w Zj.obj)).stay V.o Tu;exact h1.below (Zq _ _)
 go_wp2_with fail
 rw [<- Vc]
 clear Vc
 go_loopg [8] (ts.length - b) (fun gk _ wr=>∃ (b m:Nat) (x:NV) (D:Ty),xQ (wr.heap[nb]?=some x.obj)/\xQ (Wb (w.heap.size+1) nb wr x D)/\xQ (Zl pb w wr)/\xQ (Ps wr pb tb cap ts b d)/\xQ (wr.heap[w.heap.size]?=some Zj.obj)/\xQ (Hw wr F L)/\xQ (R=Uw ts L sub m D b)/\xQ (ts.length<=b+m)/\ts.length - b<=gk)
 case atStart=>exact⟨b,ts.length,x,D,HN0,Pq,Zx.o.alloc M _,HP.o.alloc _,(xA (xB N.o)).trans N.o,Gz,C,Nat.le_add_left _ _,xR⟩
 case round =>
  clear Pq HN0 Gz HP HT HU C Zx N V HNb;obtain⟨b,m,x,D,HN,HX,Xc,Qt,N,Gz,C,Qs,Pw⟩:=hrel;have HI:=Za (is_r pb tb cap b F xc ts L wr Qt.o.rd Gz.o hl)
  obtain⟨m,rfl⟩:∃ q,m=q+1:=⟨m - 1,by have:=Qs.o; have:=Qt.o.lt; omega⟩
  cases hs:L.any fun s=>Zg ts b s with
  | false =>
   have HE:=Za (C.o.trans (fI hs));rw [hs] at HI;clear hs;go_wp2_with fail;refine HI.o.mono ?_;rintro e w2 ⟨rfl,A⟩;have Ri:=Za (Xc.o.trans (Zl.of Qt.o.ltp A));have z:=Za (Qt.o.below A);have Zv:=Za (HX.o.below (xB HN.o) A);have Zy:=Za ((A.block _ (xB N.o)).trans N.o);have J:=Za ((A.block _ (xB HN.o)).trans HN.o);obtain⟨⟨r0,r1,r2,r3,r4,r5,r6,r7⟩,⟨f0,f1,f2,f3,f4,f5,f6,f7⟩,Yw⟩:=Zn Zy.o
   obtain⟨⟨n0,n1,n2,n3,n4,n5,n6,n7⟩,_,N5⟩:=Zn J.o
   have Z1:¬ nb=w.heap.size:=by omega
   clear A;go_wp2_with fail;rw [HE.o];refine r64 rfl rfl (Wv (x:=x) Zy.o) rfl ⟨Wy Ri.o M (xR) x,Ve z.o M x,_,rfl,x,rfl,?_⟩;exact((Zv.o.now N5).put8 (xU _) x).lower (Nat.le_succ _)
  | true =>
   have HRB:=Za (C.o.trans (fJ hs))
   have Dp:∃ s,Zg ts b s=true:=by
    obtain⟨s,_,h2⟩:=List.any_eq_true.1 hs;exact⟨s,h2⟩
   have Gv:xQ (b+1<ts.length):=by
    obtain⟨s,h2⟩:=Dp;exact Xx OK.o.ends Qt.o.lt h2
   rw [hs] at HI;clear hs Dp;obtain⟨t,ht⟩:=xE (Zk ts b);rw [<- ht] at HRB;go_wp2_with fail;refine HI.o.mono ?_;rintro e w2 ⟨rfl,A⟩;have Ri:=Za (Xc.o.trans (Zl.of Qt.o.ltp A));have z:=Za (Qt.o.below A);have Zv:=Za (HX.o.below (xB HN.o) A);have Zy:=Za ((A.block _ (xB N.o)).trans N.o);have J:=Za ((A.block _ (xB HN.o)).trans HN.o);have HT2:=Za (Gz.o.below A);clear A;go_wp2_with fail
   refine(Jj pb tb cap b d ts _ z.o Gv.o OK.o.len).mono ?_;rw [<- ht];rintro e w3 ⟨rfl,j,Y⟩;have HPs3:xQ (pb<w3.heap.size):=Y.ltp;have Tb:=Za ((Ri.o.trans j).alloc M (.cells #[iP t.kind,uP t.text,iP t.line,iP t.col] 121));have F2:=Za (Y.alloc (.cells #[iP t.kind,uP t.text,iP t.line,iP t.col] 121));have P9:=Za ((Zv.o.stay (xB J.o) j (by omega)).alloc (xT (xB J.o) j.size) (.cells #[iP t.kind,uP t.text,iP t.line,iP t.col] 121))
   have Yz:=Za ((Below.heap_alloc w3 (.cells #[iP t.kind,uP t.text,iP t.line,iP t.col] 121) _ (xT (xB Zy.o) j.size)).trans ((j.keep _ M (xB Zy.o)).trans Zy.o));have Lj:=Za ((Below.heap_alloc w3 (.cells #[iP t.kind,uP t.text,iP t.line,iP t.col] 121) _ (xT (xB J.o) j.size)).trans ((j.keep _ (by omega) (xB J.o)).trans J.o));have HT3:=Za ((HT2.o.stay j Tu).below (Zq _ (.cells #[iP t.kind,uP t.text,iP t.line,iP t.col] 121)))
   have HCw:=Za (Zn ((j.keep _ (by omega) (xB J.o)).trans J.o)).1;have HLw:=Za (xT (xB J.o) j.size);have HTb:=Za (xL w3 (.cells #[iP t.kind,uP t.text,iP t.line,iP t.col] 121));clear j Y ht
   have HC:xQ (Calls prog g #[qP pb] (w3.alloc (.cells #[iP t.kind,uP t.text,iP t.line,iP t.col] 121)).drew fun e w4=>(∃ chain,e = .panicked chain/\Ya pb tb cap ts d w Z6 R e w4) ∨
     ∃ (y:NV) (D2:Ty) (b2:Nat),e = .returned y.val/\lI w4 nb x/\Wp w4 w3.heap.size t/\xQ (lU pb tb cap d nb F ts L R sub m w x D t w4 y D2 b2/\b+1<=b2)):=by
    refine(HG.o.calls (b+1) _ F2.o.drew).mono ?_;rintro e w4 ⟨hst',O⟩;have j:=hst'.undrew;have T:=Tb.o.trans j;rcases hk:sub (b+1)with⟨D2,b2⟩ | ⟨er,li,co⟩
    ·rw [hk] at O
     obtain⟨Y,v,rfl,y,rfl,hv⟩:=O;have hn4:=(j.keep nb (by omega) (xB Lj.o)).trans Lj.o;refine .inr ⟨y,D2,b2,rfl,(Zn hn4).1,Y8 ((j.keep w3.heap.size (by have:=z.o.ltp; have:=HPs3.o; omega) (xB HTb.o)).trans HTb.o),⟨by rw [HRB.o,hk]; rfl,T,Y,hn4,P9.o.stay (xB Lj.o) j (by omega),qX hv (xB Lj.o) (xB Yz.o),(j.keep _ M (xB Yz.o)).trans Yz.o,HT3.o.stay j Tu⟩,HG.o.up _ _ _ hk⟩
    ·rw [hk] at O
     subst O;exact .inl ⟨_,rfl,T,by rw [HRB.o,hk]; rfl⟩
   have To:xQ (∀ (w4:wD) (y:NV) (D2:Ty) (b2:Nat),xQ (lU pb tb cap d nb F ts L R sub m w x D t w4 y D2 b2/\b+1<=b2)->Calls prog 130 #[Cv t,x.val,y.val] w4 fun e I=>∃ kb,e = .returned (M6 t kb).val/\wU I nb x/\xQ ((put8 I nb (M6 t kb)).heap[nb]?=some (M6 t kb).obj/\Wb (w.heap.size+1) nb (put8 I nb (M6 t kb)) (M6 t kb) (Zp 14 t.text 0 t.line t.col [] [] [D,D2])/\Zl pb w (put8 I nb (M6 t kb))/\Ps (put8 I nb (M6 t kb)) pb tb cap ts b2 d/\(put8 I nb (M6 t kb)).heap[w.heap.size]?=some Zj.obj/\Hw (put8 I nb (M6 t kb)) F L/\R=Uw ts L sub m (Zp 14 t.text 0 t.line t.col [] [] [D,D2]) b2/\b+1<=b2)):=by
    intro w4 y D2 b2 hh;obtain⟨⟨q1,q2,q3,q4,q5,q6,q7,q8⟩,q9⟩:=hh.o;refine(dY t x y w4).mono ?_;rintro e I ⟨kb,rfl,hb,Vt,hk⟩;have Z:=(hb.block nb (xB q4)).trans q4;have hnb4:=xB q4;have hx5:=zey (t:=t) q5 q6 hnb4 hb (by omega) (by omega) hk;refine⟨kb,rfl,Zn Z,Wv Z,hx5.put8 (xB Z) _,Wy (q2.trans (Zl.of q3.ltp hb)) M (by omega) _,Ve (q3.below hb) (by omega) _,?_,?_,q1,q9⟩
    ·exact(N7 (by omega)).trans ((hb.block _ (xB q7)).trans q7)
    ·have h8:=q8.below hb
     exact⟨by rw [Nt]; exact h8.1,fun i hi=>(World.cell?_of_block (w:=I) (a:=aP F i) (N7 (by have:=HL.o.1; show F≠nb; omega))).trans (h8.2 i hi)⟩
   obtain⟨m0,m1,m2,m3,m4,m5,m6,m7⟩:=HCw.o;have hlw3:=HLw.o;go_wp2_with fail
   go_region_with (first
    | (go_at_call 130; refine(To.o _ _ _ _ Nz).mono ?_; rintro e I ⟨kb,rfl,t8,Js⟩; obtain⟨⟨p0,p1,p2,p3,p4,p5,p6,p7⟩,⟨f0,f1,f2,f3,f4,f5,f6,f7⟩,hl5⟩:=t8)
    | (refine HC.o.mono ?_; rintro e w4 (⟨ch,rfl,hf⟩ | ⟨y,D2,b2,rfl,t5,t6,Nz⟩); exact⟨rfl,hf⟩; unfold lI at t5; unfold Wp at t6; obtain⟨n0,n1,n2,n3,n4,n5,n6,n7⟩:=t5; obtain⟨k0,k1,k2,k3⟩:=t6))
   all_goals
    go_wp2_with fail;obtain⟨g1,g2,g3,g4,g5,g6,g7,g8⟩:=Js.o
    go_roundg (ts.length - b2)
    case measure=>have:=g4.lt; omega
    case rel=>exact⟨b2,m,M6 t kb,_,g1,g2,g3,g4,g5,g6,g7,(by have:=Qs.o; show _<=_; omega),xR⟩
end
end Go.Proofs.YtoppemkjhhlegaaGreatDoor
