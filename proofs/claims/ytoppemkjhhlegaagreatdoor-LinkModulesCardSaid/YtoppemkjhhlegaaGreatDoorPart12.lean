/- Part. -/
import Derived.Test.YtoppemkjhhlegaaGreatDoorPart11
set_option maxRecDepth 100000
set_option maxHeartbeats 4000000
namespace Go.Proofs.YtoppemkjhhlegaaGreatDoor
open Go.Proofs.Tryz
open Go.RowKit
def StrsE (lo:Nat) (w:wD) (v:vL) (xs:List (bS)):Prop:=∃ cs,Yq Mb lo 9 1 none w v cs xs
structure cU (m:String):Prop where
 meth:∀ n pb w,(method (n+1) 113 (qP pb) m).run prog w = .ok (85,qP pb) w
theorem fT (pb tb cap d:Nat) (ts:List Tok) (sep:bS) (m0:String) (N:cU m0)
  (f a:Nat) (hf:ts.length<=a+(f+1)) (w:wD) (h:Ps w pb tb cap ts a d) (ok:Ym ts) :
  Calls prog 86 #[qP pb,uP sep,.func (.methodOf 113 m0) #[] #[]] w (Ya pb tb cap ts d w StrsE (Z9 ts (Zu ts) sep (f+1) a)):=by
 have H:=Za h
 have J:=Za ok
 have U4:=N.meth
 clear h ok N
 have C:=Za (Dx pb tb cap a d ts w H.o J.o)
 have HF:=Za hf
 clear hf
 cases ho:Zu ts a with
 | inr x =>
  obtain⟨er,li,co⟩:=x;rw [qO ho];rw [ho] at C;clear ho;go_enter func86,ntmps86;go_wp2_with fail;refine C.o.mono ?_;rintro e w1 ⟨j,rfl⟩;have A:=Za j;clear j;go_wp2_with fail;exact⟨rfl,A.o,rfl⟩
 | inl x =>
  obtain⟨V,Y⟩:=x;have HM:=Za (qT (ts:=ts) (sep:=sep) (f:=f) ho);have HU:=Za (Eb ho);rw [ho] at C;clear ho;obtain⟨R,hR⟩:=xE (Z9 ts (Zu ts) sep (f+1) a);rw [<- hR] at HM ⊢;clear hR;obtain⟨i0,hi,Xr,Xg,Xw⟩:=info_parts Ix;go_enter func86,ntmps86;go_wp2_with fail;refine C.o.mono ?_;rintro e w1 ⟨j,z,v,rfl,hv⟩;subst hv;have Yl:=Za (zT (B:=w.heap.size) (et:=9) (k:=1) (rep:=Mb) (x:=V) (c:=[uP V]) (lo:=w.heap.size) rfl (xR) j.size rfl)
  have A:=Za (j.alloc H.o.ltp (.cells #[uP V] 9));have HP:=Za (z.alloc (.cells #[uP V] 9));clear j z
  have Ku:xQ (ts.length<=Y+(f+1)):=by have:=HF.o; have:=HU.o; show _<=_; omega
  go_wp2_with fail
  go_loopg [7] (ts.length - Y) (fun gk s wr=>∃ (b m:Nat) (cs:List (List vL)) (acc:List (bS)),xQ (Yq Mb w.heap.size 9 1 none wr s cs acc)/\xQ (Zl pb w wr)/\xQ (Ps wr pb tb cap ts b d)/\xQ (F8 ts (Zu ts) sep R acc m b)/\xQ (ts.length<=b+(m+1))/\xQ (acc.length<=b+1)/\ts.length - b<=gk)
  case atStart=>exact⟨Y,f,_,_,Yl,A,HP,HM,Ku,(show 1<=Y+1 by omega),xR⟩
  case round =>
   clear Yl A HP HM Ku HU C;obtain⟨b,m,cs,acc,Hn,Xc,Qt,Gu,Qs,Nw,Pw⟩:=hrel;have T:=Za (Ta pb tb cap b d ts sep wr Qt.o J.o)
   cases hs:Zg ts b sep with
   | false =>
    have HE:=Za (qQ Gu.o hs);rw [hs,if_neg (by simp)] at T;clear hs;go_wp2_with fail;refine T.o.mono ?_;rintro e w2 ⟨rfl,j,z⟩;have A:=Za (Xc.o.trans j);have Nb:=Za z;have I:=Za (Hn.o.stay j H.o.ltp);clear j z;go_wp2_with fail;go_ret;rw [HE.o];exact⟨A.o,Nb.o,_,rfl,_,I.o⟩
   | true =>
    have Yo:b+1<ts.length:=Xx J.o.ends Qt.o.lt hs
    obtain⟨m,rfl⟩:∃ q,m=q+1:=⟨m - 1,by have:=Qs.o; omega⟩
    have Uk:=Za hs;rw [hs,if_pos rfl] at T;clear hs;go_wp2_with fail;refine T.o.mono ?_;rintro e w2 ⟨rfl,j,z⟩;have A:=Za (Xc.o.trans j);have Nb:=Za z;have I:=Za (Hn.o.stay j H.o.ltp);clear j z;have C:=Za (Dx pb tb cap (b+1) d ts w2 Nb.o J.o)
    cases ho:Zu ts (b+1)with
    | inr x =>
     obtain⟨er,li,co⟩:=x;have HE:=Za (qR Gu.o Uk.o ho);rw [ho] at C;clear ho;go_wp2_with fail;refine C.o.mono ?_;rintro e w3 ⟨j,rfl⟩;have Z:=Za (A.o.trans j);clear j;go_wp2_with fail;rw [HE.o];exact⟨rfl,Z.o,rfl⟩
    | inl x =>
     obtain⟨D1,b1⟩:=x;have HM2:=Za (qS Gu.o Uk.o ho);have F:=Za (Eb ho);rw [ho] at C;clear ho;obtain⟨av,cv,rfl⟩:=Yt I.o.ow;go_wp2_with fail;refine C.o.mono ?_;rintro e w3 ⟨j,z,v,rfl,hv⟩;subst hv;have Z:=Za (A.o.trans j);have F2:=Za z;have HS23:=Za j;have O:=Za (I.o.stay j H.o.ltp);clear j z
     have Lw:acc.length<=8193:=by have:=Nw.o; have:=J.o.len; omega
     go_wp2_with(at_builtin; refine wpList_append_own_at _ rfl (.tmp 17) (.tmp 21) 25 rfl w.heap.size 9 i0 _ 1 16 underlying25 hi Xr Xg Xw rfl (by decide) _ _ _ rfl (O.o.ow.alloc _) (aP _ 0) 1 1 [uP D1] rfl rfl (V2 _ _ _) (by simp [Value.oneCell']) (by unfold maxLen; omega) (by omega) (by have:=Z.o.size; simp; omega) ?_)
     intro v' w4 Zr Zo _ Z4
     have Xn:xQ (Yq Mb w.heap.size 9 1 none w4 v' (cs ++ [[uP D1]]) (acc ++ [D1])) :=
      O.o.put Zr Zo (Z4.imp_right fun e=>⟨_,e,by simp⟩) ((Zl.refl pb w3).alloc F2.o.ltp _) H.o.ltp rfl ((Xt.new (rep:=Mb) (lo:=w2.heap.size) (x:=D1) rfl A.o.size fun q M=>I.o.all q M).stay ((Zl.refl pb w3).alloc F2.o.ltp _) H.o.ltp)
     have P8:xQ (Zl pb w w4):=(Z.o.alloc H.o.ltp _).grown Zo H.o.ltp fun q M=>(O.o.own q M).1
     have Sd:xQ (Ps w4 pb tb cap ts b1 d):=(F2.o.alloc _).grown Zo fun q M=>xT H.o.ltp (O.o.own q M).1
     clear Zr Zo Z4;go_wp2_with fail
     go_roundg (ts.length - b1)
     case measure=>have:=F.o; have:=Sd.o.lt; omega
     case rel=>exact⟨b1,m,_,_,Xn,P8,Sd,HM2,(by have:=Qs.o; have:=F.o; show _<=_; omega),(by have:=Nw.o; have:=F.o; show(acc ++ [D1]).length<=_; simp; omega),xR⟩
section
attribute [local go_sem ↓] Go.wp_at_zero Go.wp_at_succ
theorem zkm (ts:List Tok) (K:Nat->Pr Ty) (a:Nat):My ts K a=(Zu ts a).go fun s b=>(V1 ts K [60,58] b).go fun x b => .inl ((s,x.1),b):=by
 unfold My V1
 cases Zu ts a with
 | inr e=>rfl
 | inl p =>
  show(if Zg ts p.2 [60,58] then _ else _)=Pr.go (if Zg ts p.2 [60,58] then _ else _) _;by_cases h:Zg ts p.2 [60,58]=true
  ·rw [if_pos h,if_pos h]
   cases K (p.2+1) <;> rfl
  ·rw [if_neg h,if_neg h]
   rfl
def Sm (lo:Nat) (w:wD) (c:List vL) (x:bS×Ty):Prop:=∃ (k:Int) (nm:bA) (na:oA) (nl nc:Nat) (ka:oA) (kl kc:Nat),c=[uP x.1,iP k,.string nm,.slice na nl nc,.slice ka kl kc]/\Yk lo w (.agg #[iP k,.string nm,.slice na nl nc,.slice ka kl kc]) x.2
def VarE (lo:Nat) (w:wD) (v:vL) (x:bS×Ty):Prop:=∃ c:List vL,v = .agg c.toArray/\Sm lo w c x
theorem tF:B5 Sm where
 keep:=fun⟨k,nm,na,nl,nc,ka,kl,kc,e,h⟩ z A=>⟨k,nm,na,nl,nc,ka,kl,kc,e,h.keep z A⟩
 lower:=fun⟨k,nm,na,nl,nc,ka,kl,kc,e,h⟩ j=>⟨k,nm,na,nl,nc,ka,kl,kc,e,h.lower j⟩
abbrev zVar:Obj := .cells #[sP,iP 0,sP,nP,nP] 96
abbrev uJ (w:wD) (b:Nat) (x0 x1 x2 x3 x4:vL):wD:=((((w.setCell (aP b 0) x0).setCell (aP b 1) x1).setCell (aP b 2) x2).setCell (aP b 3) x3).setCell (aP b 4) x4
section
variable {w w' : wD} {b pb lo : Nat} {y0 y1 y2 y3 y4 : vL} {t : TypeId}
theorem zga (h:w.heap[b]?=some (.cells #[y0,y1,y2,y3,y4] t)) (j A C z F:vL):(uJ w b j A C z F).heap[b]?=some (.cells #[j,A,C,z,F] t):=by
 have N:=Y1 (o:=0) (u:=j) h
 simp only [List.setIfInBounds_toArray,List.set_cons_zero] at N
 have I:=Y1 (o:=1) (u:=A) N
 simp only [List.setIfInBounds_toArray,List.set_cons_zero,List.set_cons_succ] at I
 have M:=Y1 (o:=2) (u:=C) I
 simp only [List.setIfInBounds_toArray,List.set_cons_zero,List.set_cons_succ] at M
 have H:=Y1 (o:=3) (u:=z) M
 simp only [List.setIfInBounds_toArray,List.set_cons_zero,List.set_cons_succ] at H
 have J:=Y1 (o:=4) (u:=F) H
 simp only [List.setIfInBounds_toArray,List.set_cons_zero,List.set_cons_succ] at J
 exact J
theorem zjc (h:Zl pb w w') (j:pb<w.heap.size) (z:w.heap.size<=b) (A F H C I:vL):Zl pb w (uJ w' b A F H C I) :=
 ((((h.own j z 0 _).own j z 1 _).own j z 2 _).own j z 3 _).own j z 4 _
theorem zfy {tb cap a d:Nat} {ts:List Tok} (h:Ps w pb tb cap ts a d) (j:pb<b) (z C F A H:vL):Ps (uJ w b z C F A H) pb tb cap ts a d :=
 ((((h.other j 0 _).other j 1 _).other j 2 _).other j 3 _).other j 4 _
theorem zka {v:vL} {D:Ty} (h:Yk lo w v D) (hb:b<lo) (z C F A H:vL):Yk lo (uJ w b z C F A H) v D :=
 h.keep (by simp only [Yg]; exact xR) fun i hi _=>by
  unfold uJ
  have j:i≠b:=by omega
  rw [xH j,xH j,xH j,xH j,xH j]
theorem box5 (h:w.heap[b]?=some (.cells #[y0,y1,y2,y3,y4] t)):(c5 w b y0 y1 y2 y3 y4) /\
  (w.frozen? (aP b 0)=false/\w.frozen? (aP b 1)=false/\w.frozen? (aP b 2)=false/\w.frozen? (aP b 3)=false/\w.frozen? (aP b 4)=false)/\b<w.heap.size:=by
 refine⟨⟨?_,?_,?_,?_,?_⟩,⟨?_,?_,?_,?_,?_⟩,xB h⟩
 all_goals first | (rw [cell_of_row _ _ _ _ _ _ h]; rfl) | simp [World.frozen?,h]
end
theorem zkq (pb tb cap d:Nat) (ts:List Tok) (K:Nat->Pr Ty) (hK:Xs pb tb cap d ts Yk 106 K) (ok:Ym ts) (a:Nat) (w:wD) (h:Ps w pb tb cap ts a d) :
  Calls prog 89 #[qP pb] w (Ya pb tb cap ts d w VarE (My ts K a)):=by
 have H:=Za h
 have OK:=Za ok
 have hp:=h.ltp
 have Pn:=Za hK
 have C0:=Za (U2 h zVar)
 obtain⟨R,Z⟩:∃ R:Pr (bS×Ty),R=(My ts K a):=⟨_,rfl⟩
 rw [<- Z]
 rw [zkm] at Z
 have Yl:=Za Z
 clear h ok Z hK
 go_enter func89,ntmps89
 go_wp2_with fail
 refine(Dx pb tb cap a d ts _ C0.o.ps OK.o).mono ?_
 intro e w2 A
 rcases Yr A with⟨er,li,co,j,rfl,z⟩ | ⟨s,b2,v,j,rfl,z,N,hv⟩
 ·have HE:xQ (R = .inr (er,li,co)):=by rw [Yl.o,j]; exact rfl
  have HF:=Za (C0.o.st.trans z);clear j z A;go_wp2_with fail;exact⟨rfl,HF.o,by rw [HE.o]⟩
 have Zy:xQ (R=(V1 ts K [60,58] b2).go fun x b => .inl ((s,x.1),b)):=by rw [Yl.o,j]; exact rfl
 subst hv
 have Y:=Za ((C0.o.step z N))
 clear j z N A
 go_wp2_with fail
 refine(yM pb tb cap d ts [60,58] K Pn.o OK.o b2 _ Y.o.ps).mono ?_
 intro e w3 A
 rcases Yr A with⟨er,li,co,j,rfl,z⟩ | ⟨x,b3,v,j,rfl,z,N,hv⟩
 ·have HE:xQ (R = .inr (er,li,co)):=by rw [Zy.o,j]; exact rfl
  have HF:=Za (Y.o.st.trans z);clear j z A;go_wp2_with fail;exact⟨rfl,HF.o,by rw [HE.o]⟩
 have Yz:xQ (R = .inl ((s,x.1),b3)):=by rw [Zy.o,j]; exact rfl
 obtain⟨u3,rfl,hv⟩:=hv
 obtain⟨k1,M,F,V,I,O,T,J,rfl⟩:=hv.cells
 have C3:=Za ((Y.o.step z N).addT hv Y.o.sz)
 clear j z N A hv
 have C:=Za (C3.o.alloc (Z7 k1 M F V I O T J))
 obtain⟨⟨r0,r1,r2,r3,r4⟩,⟨f0,f1,f2,f3,f4⟩,Yw⟩:=box5 C.o.b1
 obtain⟨⟨q0,q1,q2,q3⟩,_,hq1⟩:=Yh C.o.b0
 have Z1:¬ w3.heap.size=w.heap.size:=by have:=C3.o.sz; omega
 go_wp2_with fail
 rw [Yz.o]
 refine bodyPost_ret (results_cell_row rfl _ _ w.heap.size 96 _ (0,0) _ rfl (zga C.o.b1 _ _ _ _ _) underlying96 rfl (by kernel_rfl)) rfl ⟨zjc C.o.st hp (xR) _ _ _ _ _,zfy C.o.ps hp _ _ _ _ _,_,rfl,[_,_,_,_,_],rfl,k1,M,F,V,I,O,T,J,rfl,?_⟩
 exact(zka C.o.t0 (xU _) _ _ _ _ _).lower (Nat.le_succ _)
end
def lV (lo:Nat) (w:wD) (v:vL) (xs:List (bS×Ty)):Prop:=∃ cs,Yq Sm lo 96 5 none w v cs xs
theorem gZ:(prog.info? 96).map (fun i=>(i.zero,i.size,i.bytes))=some (some (.agg #[sP,iP 0,sP,nP,nP]),5,88):=by kernel_rfl
theorem zdk (pb tb cap d:Nat) (ts:List Tok) (sep:bS) (g:Nat) (one:Nat->Pr (bS×Ty)) (hg:Xs pb tb cap d ts VarE g one)
  (f a:Nat) (hf:ts.length<=a+(f+1)) (w:wD) (h:Ps w pb tb cap ts a d) (ok:Ym ts) :
  Calls prog 88 #[qP pb,uP sep,.func (.func g) #[] #[]] w (Ya pb tb cap ts d w lV (Z9 ts one sep (f+1) a)):=by
 have H:=Za h
 have OK:=Za ok
 have HG:=Za hg
 have U4:=hg.enters
 clear h ok hg
 have T:=Za (HG.o.calls a w H.o)
 have HF:=Za hf
 clear hf
 cases ho:one a with
 | inr x =>
  obtain⟨er,li,co⟩:=x;rw [qO ho];rw [ho] at T;clear ho;go_enter func88,ntmps88;go_wp2_with fail;refine T.o.mono ?_;rintro e w1 ⟨j,rfl⟩;have O:=Za j;clear j;go_wp2_with fail;exact⟨rfl,O.o,rfl⟩
 | inl x =>
  obtain⟨D0,a1⟩:=x;have HM:=Za (qT (ts:=ts) (sep:=sep) (f:=f) ho);have HU:=Za (HG.o.up _ _ _ ho);rw [ho] at T;clear ho;obtain⟨R,hR⟩:=xE (Z9 ts one sep (f+1) a);rw [<- hR] at HM ⊢;clear hR;obtain⟨i0,hi,Xr,Xg,Xw⟩:=info_parts gZ;go_enter func88,ntmps88;go_wp2_with fail;refine T.o.mono ?_;rintro e w1 ⟨j,N,v,rfl,hv⟩;obtain⟨_,rfl,V,z,F,C,J,M,I,A,rfl,hT⟩:=hv
  have hv:Sm _ _ _ _:=⟨V,z,F,C,J,M,I,A,rfl,hT⟩
  have Yl:=Za (zT (B:=w.heap.size) (et:=96) (k:=5) (rep:=Sm) (c:=[uP D0.1,iP V,.string z,.slice F C J,.slice M I A]) hv (xR) j.size rfl);have O:=Za (j.alloc H.o.ltp (.cells #[uP D0.1,iP V,.string z,.slice F C J,.slice M I A] 96));have HP:=Za (N.alloc (.cells #[uP D0.1,iP V,.string z,.slice F C J,.slice M I A] 96));clear j N hv hT
  have Ku:xQ (ts.length<=a1+(f+1)):=by have:=HF.o; have:=HU.o; show _<=_; omega
  go_wp2_with fail
  go_loopg [7] (ts.length - a1) (fun gk s wr=>∃ (b m:Nat) (cs:List (List vL)) (acc:List (bS×Ty)),xQ (Yq Sm w.heap.size 96 5 none wr s cs acc)/\xQ (Zl pb w wr)/\xQ (Ps wr pb tb cap ts b d)/\xQ (F8 ts one sep R acc m b)/\xQ (ts.length<=b+(m+1))/\xQ (acc.length<=b+1)/\ts.length - b<=gk)
  case atStart=>exact⟨a1,f,_,_,Yl,O,HP,HM,Ku,(show 1<=a1+1 by omega),xR⟩
  case round =>
   clear Yl O HP HM Ku HU T;obtain⟨b,m,cs,acc,Hn,Xc,Qt,Gu,Qs,Nw,Pw⟩:=hrel;have HT:=Za (Ta pb tb cap b d ts sep wr Qt.o OK.o)
   cases hs:Zg ts b sep with
   | false =>
    have HE:=Za (qQ Gu.o hs);rw [hs,if_neg (by simp)] at HT;clear hs;go_wp2_with fail;refine HT.o.mono ?_;rintro e w2 ⟨rfl,j,N⟩;have O:=Za (Xc.o.trans j);have Nb:=Za N;have Z:=Za (Hn.o.stay j H.o.ltp);clear j N;go_wp2_with fail;go_ret;rw [HE.o];exact⟨O.o,Nb.o,_,rfl,_,Z.o⟩
   | true =>
    have Yo:b+1<ts.length:=Xx OK.o.ends Qt.o.lt hs
    obtain⟨m,rfl⟩:∃ q,m=q+1:=⟨m - 1,by have:=Qs.o; omega⟩
    have Uk:=Za hs;rw [hs,if_pos rfl] at HT;clear hs;go_wp2_with fail;refine HT.o.mono ?_;rintro e w2 ⟨rfl,j,N⟩;have O:=Za (Xc.o.trans j);have Nb:=Za N;have Z:=Za (Hn.o.stay j H.o.ltp);clear j N;have T:=Za (HG.o.calls (b+1) w2 Nb.o)
    cases ho:one (b+1)with
    | inr x =>
     obtain⟨er,li,co⟩:=x;have HE:=Za (qR Gu.o Uk.o ho);rw [ho] at T;clear ho;go_wp2_with fail;refine T.o.mono ?_;rintro e w3 ⟨j,rfl⟩;have Tb:=Za (O.o.trans j);clear j;go_wp2_with fail;rw [HE.o];exact⟨rfl,Tb.o,rfl⟩
    | inl x =>
     obtain⟨D1,b1⟩:=x;have HM2:=Za (qS Gu.o Uk.o ho);have Y:=Za (HG.o.up _ _ _ ho);rw [ho] at T;clear ho;obtain⟨av,cv,rfl⟩:=Yt Z.o.ow;go_wp2_with fail;refine T.o.mono ?_;rintro e w3 ⟨j,N,v,rfl,hv⟩;obtain⟨_,rfl,V,z,F,C,J,M,I,A,rfl,hT⟩:=hv
     have hv:Sm _ _ _ _:=⟨V,z,F,C,J,M,I,A,rfl,hT⟩
     have Tb:=Za (O.o.trans j);have F2:=Za N;have HS23:=Za j;have HV:=Za hv;have Gx:=Za (Z.o.stay j H.o.ltp);clear j N hv hT
     have Lw:acc.length<=8193:=by have:=Nw.o; have:=OK.o.len; omega
     go_wp2_with(at_builtin; refine wpList_append_own_at _ rfl (.tmp 17) (.tmp 21) 60 rfl w.heap.size 96 i0 _ 5 88 underlying60 hi Xr Xg Xw rfl (by decide) _ _ _ rfl (Gx.o.ow.alloc _) (aP _ 0) 1 1 [uP D1.1,iP V,.string z,.slice F C J,.slice M I A] rfl rfl (V2 _ _ _) (by simp [Value.oneCell']) (by unfold maxLen; omega) (by omega) (by have:=Tb.o.size; simp; omega) ?_)
     intro v' w4 Zr Zo _ Z4
     have Xn:xQ (Yq Sm w.heap.size 96 5 none w4 v' (cs ++ [[uP D1.1,iP V,.string z,.slice F C J,.slice M I A]]) (acc ++ [D1])) :=
      Gx.o.put Zr Zo (Z4.imp_right fun e=>⟨_,e,by simp⟩) ((Zl.refl pb w3).alloc F2.o.ltp _) H.o.ltp rfl ((Xt.new (rep:=Sm) HV.o O.o.size fun q hq=>Z.o.all q hq).stay ((Zl.refl pb w3).alloc F2.o.ltp _) H.o.ltp)
     have P8:xQ (Zl pb w w4):=(Tb.o.alloc H.o.ltp _).grown Zo H.o.ltp fun q hq=>(Gx.o.own q hq).1
     have Sd:xQ (Ps w4 pb tb cap ts b1 d):=(F2.o.alloc _).grown Zo fun q hq=>xT H.o.ltp (Gx.o.own q hq).1
     clear Zr Zo Z4;go_wp2_with fail
     go_roundg (ts.length - b1)
     case measure=>have:=Y.o; have:=Sd.o.lt; omega
     case rel=>exact⟨b1,m,_,_,Xn,P8,Sd,HM2,(by have:=Qs.o; have:=Y.o; show _<=_; omega),(by have:=Nw.o; have:=Y.o; show(acc ++ [D1]).length<=_; simp; omega),xR⟩
section
attribute [local go_sem ↓] Go.wp_at_zero Go.wp_at_succ
abbrev vX (s:bS) (na:oA) (nl nc li co:Nat):Obj := .cells #[uP s,.slice na nl nc,iP li,iP co] 68
abbrev Cx:Obj := .cells #[sP,nP,iP 0,iP 0] 68
def Bq (ts:List Tok) (a:Nat):Pr Ty:=(Ze ts a [105,109,112,111,114,116]).go fun _ b=>(Zu ts b).go fun s b=>(Ze ts b [58]).go fun _ b=>(Z9 ts (Zu ts) [44] ts.length b).go fun l b=>(Ze ts b [59]).go fun _ b => .inl (L5 s l (Yj ts a) (Yi ts a),b)
def Ky (lo:Nat) (w:wD) (c:List vL) (D:Ty):Prop:=∃ (s:bS) (l:List (bS)) (na:oA) (nc li co:Nat),c=[uP s,.slice na l.length nc,iP li,iP co]/\D=L5 s l li co/\l.length<=8193/\Bb w lo na l
def ImpE (lo:Nat) (w:wD) (v:vL) (D:Ty):Prop:=∃ c:List vL,v = .agg c.toArray/\Ky lo w c D
theorem zbz (pb tb cap d:Nat) (ts:List Tok) (ok:Ym ts) (a:Nat) (w:wD) (h:Ps w pb tb cap ts a d) :
  Calls prog 68 #[qP pb] w (Ya pb tb cap ts d w ImpE (Bq ts a)):=by
 have H:=Za h
 have V:=Za ok
 have O:=h.ltp
 have C0:=Za (U2 h Cx)
 obtain⟨R,hR⟩:∃ R:Pr Ty,R=(Bq ts a):=⟨_,rfl⟩
 rw [<- hR]
 unfold Bq at hR
 have Yc:=Za hR
 clear h ok hR
 go_enter func68,ntmps68
 go_wp2_with fail
 refine(Uy pb tb cap a d ts [105,109,112,111,114,116] _ C0.o.ps V.o).mono ?_
 intro e w1 A
 rcases Yr A with⟨er,li,co,z,rfl,j⟩ | ⟨u,b1,v,z,rfl,j,C,hv⟩
 ·have M:xQ (R = .inr (er,li,co)):=by rw [Yc.o,z]; exact rfl
  have N:=Za (C0.o.st.trans j);clear z j A;go_wp2_with fail;exact⟨rfl,N.o,by rw [M.o]⟩
 obtain⟨t,ht⟩:=xE (Zk ts a)
 have Yl:xQ (R=(Zu ts b1).go fun s b=>(Ze ts b [58]).go fun _ b=>(Z9 ts (Zu ts) [44] ts.length b).go fun l b=>(Ze ts b [59]).go fun _ b => .inl (L5 s l t.line t.col,b)):=by rw [Yc.o,z,ht]; exact rfl
 rw [<- ht] at hv
 subst hv
 have C1:=Za ((C0.o.step j C))
 have C2:=Za (C1.o.alloc (Z3 t))
 clear z j C A ht
 go_wp2_with fail
 have Uq:(kT ((w1.alloc (Z3 t)).drew) w1.heap.size t):=(Y8 (C2.o.drew.b0))
 have Sf:xQ (∀ o,(c4 (((w1.alloc (Z3 t)).alloc o).drew) w1.heap.size (iP t.kind) (uP t.text) (iP t.line) (iP t.col))):=(fun o=>Y8 ((C2.o.alloc o).drew.has (w1.heap.size,Z3 t) (by simp)).1)
 have HC:xQ (∀ wa bx,Y4 pb tb cap d ts w wa b1 bx [] []->(w1.heap.size,Z3 t) ∈ bx->Calls prog 85 #[qP pb] wa fun e F=>(∃ chain,e = .panicked chain/\Ya pb tb cap ts d w ImpE R e F)∨∃ (s:bS) (b2:Nat),e = .returned (uP s)/\(kT F w1.heap.size t)/\xQ (R=((Ze ts b2 [58]).go fun _ b=>(Z9 ts (Zu ts) [44] ts.length b).go fun l b=>(Ze ts b [59]).go fun _ b => .inl (L5 s l t.line t.col,b))/\Y4 pb tb cap d ts w F b2 bx [] [])):=by
  intro wa bx CA m0;refine(Dx pb tb cap b1 d ts _ CA.ps V.o).mono ?_;intro e F A;rcases Yr A with⟨er,li,co,z,rfl,j⟩ | ⟨s,b2,v,z,rfl,j,C,hv⟩
  ·exact .inl ⟨_,rfl,CA.st.trans j,by rw [Yl.o,z]; rfl⟩
  subst hv
  have CN:=(CA.step j C)
  exact .inr ⟨s,b2,rfl,Y8 ((CN).has (w1.heap.size,Z3 t) m0).1,by rw [Yl.o,z]; rfl,CN⟩
 go_region_held (fun W=>(kT W w1.heap.size t)) (first | with_reducible assumption | with_reducible exact Sf.o _ | with_reducible exact Vs.o _ | with_reducible exact Wm.o _ _ _ _ | with_reducible exact HS5.o _ _ _ _) (first
  | (go_at_call 85; refine(HC.o _ _ C2.o.drew (by simp)).mono ?_; rintro e F (⟨ch,rfl,hf⟩ | ⟨s,b2,rfl,t5,HX⟩); exact⟨rfl,hf⟩; have Vs:xQ (∀ o,(kT ((F.alloc o)) w1.heap.size t)):=(fun o=>Y8 ((HX.o.2.alloc o).has (w1.heap.size,Z3 t) (by simp)).1); have Jp:=Za (Yh (HX.o.2.alloc Cx).b0); obtain⟨⟨i0,i1,i2,i3⟩,⟨j0,j1,j2,j3⟩,Um⟩:=Jp.o; have F0:xQ (w1.heap.size≠F.heap.size):=(by have:=xB HX.o.2.b0; show _≠_; omega); have HS5:xQ (∀ v0 v1 v2 v3,(c4 ((((((F.alloc Cx).setCell (aP F.heap.size 0) v0).setCell (aP F.heap.size 1) v1).setCell (aP F.heap.size 2) v2).setCell (aP F.heap.size 3) v3)) w1.heap.size (iP t.kind) (uP t.text) (iP t.line) (iP t.col))):=(fun v0 v1 v2 v3=>Y8 ((Q1 F0.o v0 v1 v2 v3).trans ((HX.o.2.alloc Cx).has (w1.heap.size,Z3 t) (by simp)).1)))
  | (go_at_call 85; refine(HC.o _ _ (C2.o.alloc Cx).drew (by simp)).mono ?_; rintro e F (⟨ch,rfl,hf⟩ | ⟨s,b2,rfl,t5,HX⟩); exact⟨rfl,hf⟩; have Jp:=Za (Yh (show F.heap[w1.heap.size+1]?=some Cx from (by have h:=HX.o.2.b0; simp only [xS] at h; exact h))); obtain⟨⟨i0,i1,i2,i3⟩,⟨j0,j1,j2,j3⟩,Um⟩:=Jp.o; have Wm:xQ (∀ v0 v1 v2 v3,(c4 (((((F.setCell (aP (w1.heap.size+1) 0) v0).setCell (aP (w1.heap.size+1) 1) v1).setCell (aP (w1.heap.size+1) 2) v2).setCell (aP (w1.heap.size+1) 3) v3)) w1.heap.size (iP t.kind) (uP t.text) (iP t.line) (iP t.col))):=(fun v0 v1 v2 v3=>Y8 ((Q1 (by omega) v0 v1 v2 v3).trans (HX.o.2.has (w1.heap.size,Z3 t) (by simp)).1))))
 ·have Z:=Za (HX.o.2.alloc (vX s none 0 0 t.line t.col))
  have T:xQ (w.heap.size+1<=F.heap.size):=HX.o.2.sz;have Zy:=Za HX.o.1;clear HX Vs HS5 Jp i0 i1 i2 i3 j0 j1 j2 j3 Um F0 t5 HC Sf Uq C0 C1 C2 Yc Yl;generalize F.alloc (vX s none 0 0 t.line t.col)=W3 at Z ⊢;generalize F.heap.size=ib at Z T ⊢;go_wp2_with fail;refine(Uy pb tb cap b2 d ts [58] _ Z.o.ps V.o).mono ?_;intro e w4 A;rcases Yr A with⟨er,li,co,z,rfl,j⟩ | ⟨u4,b4,v4,z,rfl,j,C,hv⟩
  ·have M:xQ (R = .inr (er,li,co)):=by rw [Zy.o,z]; exact rfl
   have N:=Za (Z.o.st.trans j);clear z j A;go_wp2_with fail;exact⟨rfl,N.o,by rw [M.o]⟩
  obtain⟨f,hf⟩:∃ f,ts.length=f+1:=⟨ts.length - 1,by have:=V.o.pos; omega⟩
  have Yz:xQ (R=(Z9 ts (Zu ts) [44] (f+1) b4).go fun l b=>(Ze ts b [59]).go fun _ b => .inl (L5 s l t.line t.col,b)):=by rw [Zy.o,z,hf]; exact rfl
  have C4:=Za (Z.o.step j C);clear z j C A hv;go_wp2_with fail;refine(fT pb tb cap d ts [44] _ ⟨fun _ _ _=>by kernel_rfl⟩ f b4 (by omega) _ C4.o.ps V.o).mono ?_;intro e w5 A;rcases Yr A with⟨er,li,co,z,rfl,j⟩ | ⟨l,b5,v,z,rfl,j,C,hv⟩
  ·have M:xQ (R = .inr (er,li,co)):=by rw [Yz.o,z]; exact rfl
   have N:=Za (C4.o.st.trans j);clear z j A;go_wp2_with fail;exact⟨rfl,N.o,by rw [M.o]⟩
  have Xn:xQ (R=(Ze ts b5 [59]).go fun _ b => .inl (L5 s l t.line t.col,b)):=by rw [Yz.o,z]; exact rfl
  have On:xQ (l.length<=8193):=by have:=Cm _ z; have:=V.o.len; show _<=_; omega
  obtain⟨cs,hv⟩:=hv;obtain⟨na,nc,rfl,hnc,Mj⟩:=wK hv;have Hk:=Za Mj;have I:xQ (ib<w4.heap.size):=xB C4.o.b0;have J:=Za (C4.o.step j C);clear z j C A hv Mj;obtain⟨⟨i0,i1,i2,i3⟩,⟨j0,j1,j2,j3⟩,Um⟩:=Yh J.o.b0;go_wp2_with fail
  have C6:xQ (Y4 pb tb cap d ts w (w5.setCell (aP ib 1) (.slice na l.length nc)) b5 [(ib,vX s na l.length nc t.line t.col),(w.heap.size,Cx)] [] []):=by
   have:=T.o;refine⟨J.o.st.own O (by omega) 1 _,J.o.ps.other (by omega) 1 _,O,by rw [Yg]; exact J.o.sz,fun p hm=>?_,(fun _ h=>nomatch h),(fun _ h=>nomatch h)⟩;rcases List.mem_cons.1 hm with rfl | hm
   ·have h1:=Y1 (o:=1) (u := .slice na l.length nc) J.o.b0
    simp only [List.setIfInBounds_toArray,List.set_cons_zero,List.set_cons_succ] at h1;exact⟨h1,by show pb<ib; omega⟩
   ·rw [List.mem_singleton.1 hm]
    exact⟨(xH (by show w.heap.size≠ib; omega)).trans J.o.b2,O⟩
  have Hl:xQ (Bb (w5.setCell (aP ib 1) (.slice na l.length nc)) w4.heap.size na l):=Ec Hk.o (by rw [Yg]; exact xR) fun i hi _=>xH (by show i≠ib; have:=I.o; omega)
  clear J Hk i0 i1 i2 i3 j0 j1 j2 j3 Um;generalize w5.setCell (aP ib 1) (.slice na l.length nc)=W6 at C6 Hl ⊢;refine(Uy pb tb cap b5 d ts [59] _ C6.o.ps V.o).mono ?_;intro e w7 A;rcases Yr A with⟨er,li,co,z,rfl,j⟩ | ⟨u7,b7,v7,z,rfl,j,C,hv⟩
  ·have M:xQ (R = .inr (er,li,co)):=by rw [Xn.o,z]; exact rfl
   have N:=Za (C6.o.st.trans j);clear z j A;go_wp2_with fail;exact⟨rfl,N.o,by rw [M.o]⟩
  have Wn:xQ (R = .inl (L5 s l t.line t.col,b7)):=by rw [Xn.o,z]; exact rfl
  have Y:=Za (C6.o.step j C)
  have Fy:xQ (Bb w7 w4.heap.size na l):=Ec Hl.o j.size fun i hi hl=>j.keep i (by have:=I.o; have:=T.o; omega) hl
  clear z j C A hv;obtain⟨⟨i0,i1,i2,i3⟩,_,Um⟩:=Yh Y.o.b0;obtain⟨⟨r0,r1,r2,r3⟩,⟨f0,f1,f2,f3⟩,Yw⟩:=Yh Y.o.b1
  have Z1:¬ ib=w.heap.size:=by have:=T.o; omega
  go_wp2_with fail;rw [Wn.o];refine bodyPost_ret (results_cell_row rfl _ _ w.heap.size 68 _ (0,0) _ rfl (set4 Y.o.b1 _ _ _ _) underlying68 rfl (by kernel_rfl)) rfl ⟨Q6 Y.o.st O (xR) _ _ _ _,Jk Y.o.ps O _ _ _ _,_,rfl,[_,_,_,_],rfl,s,l,na,nc,t.line,t.col,rfl,rfl,On.o,?_⟩;refine xV (lo:=w4.heap.size) (Ec Fy.o (by rw [Ak]; exact xR) fun i hi _=>Q1 (by have:=I.o; have:=T.o; omega) _ _ _ _) (by have:=I.o; have:=T.o; omega)
 ·have Z:xQ (Y4 pb tb cap d ts w ((((F.setCell (aP (w1.heap.size+1) 0) (uP s)).setCell (aP (w1.heap.size+1) 1) nP).setCell (aP (w1.heap.size+1) 2) (iP t.line)).setCell (aP (w1.heap.size+1) 3) (iP t.col)) b2 [(w1.heap.size+1,vX s none 0 0 t.line t.col),(w1.heap.size,Z3 t),(w.heap.size,Cx)] [] []):=by
   have hx:=HX.o.2;simp only [xS] at hx;have:=C1.o.sz;refine⟨Q6 hx.st O (by omega) _ _ _ _,Jk hx.ps (by omega) _ _ _ _,O,by rw [Ak]; exact hx.sz,fun p hm=>?_,(fun _ h=>nomatch h),(fun _ h=>nomatch h)⟩;rcases List.mem_cons.1 hm with rfl | hm
   ·exact⟨set4 hx.b0 _ _ _ _,by show pb<_+1; omega⟩
   ·rcases List.mem_cons.1 hm with rfl | hm
    ·exact⟨(Q1 (by show _≠_+1; omega) _ _ _ _).trans hx.b1,by show pb<_; omega⟩
    ·rw [List.mem_singleton.1 hm]
     exact⟨(Q1 (by show _≠_+1; omega) _ _ _ _).trans hx.b2,O⟩
  have T:xQ (w.heap.size+1<=w1.heap.size+1):=by have:=C1.o.sz; show _<=_; omega
  have Zy:=Za HX.o.1;clear HX Wm Jp i0 i1 i2 i3 j0 j1 j2 j3 Um t5 HC Sf Uq C0 C1 C2 Yc Yl;generalize ((((F.setCell (aP (w1.heap.size+1) 0) (uP s)).setCell (aP (w1.heap.size+1) 1) nP).setCell (aP (w1.heap.size+1) 2) (iP t.line)).setCell (aP (w1.heap.size+1) 3) (iP t.col))=W3 at Z ⊢;generalize w1.heap.size+1=ib at Z T ⊢;go_wp2_with fail;refine(Uy pb tb cap b2 d ts [58] _ Z.o.ps V.o).mono ?_
  intro e w4 A;rcases Yr A with⟨er,li,co,z,rfl,j⟩ | ⟨u4,b4,v4,z,rfl,j,C,hv⟩
  ·have M:xQ (R = .inr (er,li,co)):=by rw [Zy.o,z]; exact rfl
   have N:=Za (Z.o.st.trans j);clear z j A;go_wp2_with fail;exact⟨rfl,N.o,by rw [M.o]⟩
  obtain⟨f,hf⟩:∃ f,ts.length=f+1:=⟨ts.length - 1,by have:=V.o.pos; omega⟩
  have Yz:xQ (R=(Z9 ts (Zu ts) [44] (f+1) b4).go fun l b=>(Ze ts b [59]).go fun _ b => .inl (L5 s l t.line t.col,b)):=by rw [Zy.o,z,hf]; exact rfl
  have C4:=Za (Z.o.step j C);clear z j C A hv;go_wp2_with fail;refine(fT pb tb cap d ts [44] _ ⟨fun _ _ _=>by kernel_rfl⟩ f b4 (by omega) _ C4.o.ps V.o).mono ?_;intro e w5 A;rcases Yr A with⟨er,li,co,z,rfl,j⟩ | ⟨l,b5,v,z,rfl,j,C,hv⟩
  ·have M:xQ (R = .inr (er,li,co)):=by rw [Yz.o,z]; exact rfl
   have N:=Za (C4.o.st.trans j);clear z j A;go_wp2_with fail;exact⟨rfl,N.o,by rw [M.o]⟩
  have Xn:xQ (R=(Ze ts b5 [59]).go fun _ b => .inl (L5 s l t.line t.col,b)):=by rw [Yz.o,z]; exact rfl
  have On:xQ (l.length<=8193):=by have:=Cm _ z; have:=V.o.len; show _<=_; omega
  obtain⟨cs,hv⟩:=hv;obtain⟨na,nc,rfl,hnc,Mj⟩:=wK hv;have Hk:=Za Mj;have I:xQ (ib<w4.heap.size):=xB C4.o.b0;have J:=Za (C4.o.step j C);clear z j C A hv Mj;obtain⟨⟨i0,i1,i2,i3⟩,⟨j0,j1,j2,j3⟩,Um⟩:=Yh J.o.b0;go_wp2_with fail
  have C6:xQ (Y4 pb tb cap d ts w (w5.setCell (aP ib 1) (.slice na l.length nc)) b5 [(ib,vX s na l.length nc t.line t.col),(w.heap.size,Cx)] [] []):=by
   have:=T.o;refine⟨J.o.st.own O (by omega) 1 _,J.o.ps.other (by omega) 1 _,O,by rw [Yg]; exact J.o.sz,fun p hm=>?_,(fun _ h=>nomatch h),(fun _ h=>nomatch h)⟩;rcases List.mem_cons.1 hm with rfl | hm
   ·have h1:=Y1 (o:=1) (u := .slice na l.length nc) J.o.b0
    simp only [List.setIfInBounds_toArray,List.set_cons_zero,List.set_cons_succ] at h1;exact⟨h1,by show pb<ib; omega⟩
   ·rw [List.mem_singleton.1 hm]
    exact⟨(xH (by show w.heap.size≠ib; omega)).trans J.o.b2,O⟩
  have Hl:xQ (Bb (w5.setCell (aP ib 1) (.slice na l.length nc)) w4.heap.size na l):=Ec Hk.o (by rw [Yg]; exact xR) fun i hi _=>xH (by show i≠ib; have:=I.o; omega)
  clear J Hk i0 i1 i2 i3 j0 j1 j2 j3 Um;generalize w5.setCell (aP ib 1) (.slice na l.length nc)=W6 at C6 Hl ⊢;refine(Uy pb tb cap b5 d ts [59] _ C6.o.ps V.o).mono ?_;intro e w7 A;rcases Yr A with⟨er,li,co,z,rfl,j⟩ | ⟨u7,b7,v7,z,rfl,j,C,hv⟩
  ·have M:xQ (R = .inr (er,li,co)):=by rw [Xn.o,z]; exact rfl
   have N:=Za (C6.o.st.trans j);clear z j A;go_wp2_with fail;exact⟨rfl,N.o,by rw [M.o]⟩
  have Wn:xQ (R = .inl (L5 s l t.line t.col,b7)):=by rw [Xn.o,z]; exact rfl
  have Y:=Za (C6.o.step j C)
  have Fy:xQ (Bb w7 w4.heap.size na l):=Ec Hl.o j.size fun i hi hl=>j.keep i (by have:=I.o; have:=T.o; omega) hl
  clear z j C A hv;obtain⟨⟨i0,i1,i2,i3⟩,_,Um⟩:=Yh Y.o.b0;obtain⟨⟨r0,r1,r2,r3⟩,⟨f0,f1,f2,f3⟩,Yw⟩:=Yh Y.o.b1
  have Z1:¬ ib=w.heap.size:=by have:=T.o; omega
  go_wp2_with fail;rw [Wn.o];refine bodyPost_ret (results_cell_row rfl _ _ w.heap.size 68 _ (0,0) _ rfl (set4 Y.o.b1 _ _ _ _) underlying68 rfl (by kernel_rfl)) rfl ⟨Q6 Y.o.st O (xR) _ _ _ _,Jk Y.o.ps O _ _ _ _,_,rfl,[_,_,_,_],rfl,s,l,na,nc,t.line,t.col,rfl,rfl,On.o,?_⟩;refine xV (lo:=w4.heap.size) (Ec Fy.o (by rw [Ak]; exact xR) fun i hi _=>Q1 (by have:=I.o; have:=T.o; omega) _ _ _ _) (by have:=I.o; have:=T.o; omega)
end
abbrev wE (w:wD) (b:Nat) (x0 x1 x2 x3 x4 x5 x6 x7 x8 x9 x10 x11 x12 x13 x14:vL):wD:=(((((((((((((((w.setCell (aP b 0) x0).setCell (aP b 1) x1).setCell (aP b 2) x2).setCell (aP b 3) x3).setCell (aP b 4) x4).setCell (aP b 5) x5).setCell (aP b 6) x6).setCell (aP b 7) x7).setCell (aP b 8) x8).setCell (aP b 9) x9).setCell (aP b 10) x10).setCell (aP b 11) x11).setCell (aP b 12) x12).setCell (aP b 13) x13).setCell (aP b 14) x14)
section
variable {w w' : wD} {b pb lo : Nat} {y0 y1 y2 y3 y4 y5 y6 y7 y8 y9 y10 y11 y12 y13 y14 : vL} {t : TypeId}
theorem sL (h:w.heap[b]?=some (.cells #[y0,y1,y2,y3,y4,y5,y6,y7,y8,y9,y10,y11,y12,y13,y14] t)) (x0 T x2 O x4 Y x6 x7 Z V F z j C A:vL):(wE w b x0 T x2 O x4 Y x6 x7 Z V F z j C A).heap[b]?=some (.cells #[x0,T,x2,O,x4,Y,x6,x7,Z,V,F,z,j,C,A] t):=by
 have h0:=Y1 (o:=0) (u:=x0) h
 simp only [List.setIfInBounds_toArray,List.set_cons_zero] at h0
 have h1:=Y1 (o:=1) (u:=T) h0
 simp only [List.setIfInBounds_toArray,List.set_cons_zero,List.set_cons_succ] at h1
 have h2:=Y1 (o:=2) (u:=x2) h1
 simp only [List.setIfInBounds_toArray,List.set_cons_zero,List.set_cons_succ] at h2
 have h3:=Y1 (o:=3) (u:=O) h2
 simp only [List.setIfInBounds_toArray,List.set_cons_zero,List.set_cons_succ] at h3
 have h4:=Y1 (o:=4) (u:=x4) h3
 simp only [List.setIfInBounds_toArray,List.set_cons_zero,List.set_cons_succ] at h4
 have h5:=Y1 (o:=5) (u:=Y) h4
 simp only [List.setIfInBounds_toArray,List.set_cons_zero,List.set_cons_succ] at h5
 have h6:=Y1 (o:=6) (u:=x6) h5
 simp only [List.setIfInBounds_toArray,List.set_cons_zero,List.set_cons_succ] at h6
 have h7:=Y1 (o:=7) (u:=x7) h6
 simp only [List.setIfInBounds_toArray,List.set_cons_zero,List.set_cons_succ] at h7
 have h8:=Y1 (o:=8) (u:=Z) h7
 simp only [List.setIfInBounds_toArray,List.set_cons_zero,List.set_cons_succ] at h8
 have h9:=Y1 (o:=9) (u:=V) h8
 simp only [List.setIfInBounds_toArray,List.set_cons_zero,List.set_cons_succ] at h9
 have I:=Y1 (o:=10) (u:=F) h9
 simp only [List.setIfInBounds_toArray,List.set_cons_zero,List.set_cons_succ] at I
 have N:=Y1 (o:=11) (u:=z) I
 simp only [List.setIfInBounds_toArray,List.set_cons_zero,List.set_cons_succ] at N
 have J:=Y1 (o:=12) (u:=j) N
 simp only [List.setIfInBounds_toArray,List.set_cons_zero,List.set_cons_succ] at J
 have H:=Y1 (o:=13) (u:=C) J
 simp only [List.setIfInBounds_toArray,List.set_cons_zero,List.set_cons_succ] at H
 have M:=Y1 (o:=14) (u:=A) H
 simp only [List.setIfInBounds_toArray,List.set_cons_zero,List.set_cons_succ] at M
 exact M
theorem wG (F M N H O J Y V T I j A z h C:vL):(wE w b F M N H O J Y V T I j A z h C).heap.size=w.heap.size:=by simp only [Yg]
theorem wF {i:Nat} (h:i≠b) (H N O I T M Z Y V J z C A j F:vL):(wE w b H N O I T M Z Y V J z C A j F).heap[i]?=w.heap[i]?:=by
 unfold wE
 rw [xH h,xH h,xH h,xH h,xH h,xH h,xH h,xH h,xH h,xH h,xH h,xH h,xH h,xH h,xH h]
theorem rC (h:Zl pb w w') (j:pb<w.heap.size) (z:w.heap.size<=b) (J T V M Y O Z x7 x8 N C H F A I:vL):Zl pb w (wE w' b J T V M Y O Z x7 x8 N C H F A I):=(((((((((((((((h.own j z 0 _).own j z 1 _).own j z 2 _).own j z 3 _).own j z 4 _).own j z 5 _).own j z 6 _).own j z 7 _).own j z 8 _).own j z 9 _).own j z 10 _).own j z 11 _).own j z 12 _).own j z 13 _).own j z 14 _)
theorem sK {tb cap a d:Nat} {ts:List Tok} (h:Ps w pb tb cap ts a d) (j:pb<b) (V J Y I Z N x6 T O M H A z F C:vL):Ps (wE w b V J Y I Z N x6 T O M H A z F C) pb tb cap ts a d:=(((((((((((((((h.other j 0 _).other j 1 _).other j 2 _).other j 3 _).other j 4 _).other j 5 _).other j 6 _).other j 7 _).other j 8 _).other j 9 _).other j 10 _).other j 11 _).other j 12 _).other j 13 _).other j 14 _)
theorem Qw (h:w.heap[b]?=some (.cells #[y0,y1,y2,y3,y4,y5,y6,y7,y8,y9,y10,y11,y12,y13,y14] t)):(c15 w b y0 y1 y2 y3 y4 y5 y6 y7 y8 y9 y10 y11 y12 y13 y14)/\(w.frozen? (aP b 0)=false/\w.frozen? (aP b 1)=false/\w.frozen? (aP b 2)=false/\w.frozen? (aP b 3)=false/\w.frozen? (aP b 4)=false/\w.frozen? (aP b 5)=false/\w.frozen? (aP b 6)=false/\w.frozen? (aP b 7)=false/\w.frozen? (aP b 8)=false/\w.frozen? (aP b 9)=false/\w.frozen? (aP b 10)=false/\w.frozen? (aP b 11)=false/\w.frozen? (aP b 12)=false/\w.frozen? (aP b 13)=false/\w.frozen? (aP b 14)=false)/\b<w.heap.size:=by
 refine⟨⟨?_,?_,?_,?_,?_,?_,?_,?_,?_,?_,?_,?_,?_,?_,?_⟩,⟨?_,?_,?_,?_,?_,?_,?_,?_,?_,?_,?_,?_,?_,?_,?_⟩,xB h⟩
 all_goals first | (rw [cell_of_row _ _ _ _ _ _ h]; rfl) | simp [World.frozen?,h]
end
def K4 (lo:Nat) (w:wD) (a:oA) (vs:List (bS×Ty)):Prop:=vs=[]∨∃ g,a=some (aP g 0)/\lo<=g/\Hg w g /\
  ∀ i (hi:i<vs.length),∃ c:List vL,c.length=5/\(∀ j,j<5->w.cell? (aP g (i*5+j))=c[j]?)/\Sm lo w c vs[i]
theorem tG {lo lo':Nat} {w:wD} {a:oA} {vs:List (bS×Ty)} (h:K4 lo w a vs) (j:lo'<=lo):K4 lo' w a vs:=by
 rcases h with h | ⟨g,e,I,C,F⟩
 ·exact .inl h
 ·refine .inr ⟨g,e,Nat.le_trans j I,C,fun i z=>?_⟩
  obtain⟨c,H,J,A⟩:=F i z;exact⟨c,H,J,tF.lower A j⟩
theorem Mq {lo:Nat} {w w':wD} {a:oA} {vs:List (bS×Ty)} (h:K4 lo w a vs) (N:w.heap.size<=w'.heap.size) (A:∀ b,lo<=b->b<w.heap.size->w'.heap[b]?=w.heap[b]?):K4 lo w' a vs:=by
 rcases h with h | ⟨g,e,F,J,I⟩
 ·exact .inl h
 ·obtain⟨cs,T,z⟩:=J
  have C:=A g F (xB z);refine .inr ⟨g,e,F,⟨cs,T,C.trans z⟩,fun i O=>?_⟩;obtain⟨c,H,V,M⟩:=I i O;refine⟨c,H,fun j Y=>?_,tF.keep M N A⟩;have:=V j Y;unfold World.cell? at this ⊢;simp only at this ⊢;rw [C];exact this
theorem zkr {lo:Nat} {w:wD} {v:vL} {vs:List (bS×Ty)} (h:lV lo w v vs):∃ a cap,v = .slice a vs.length cap/\vs.length<=cap/\K4 lo w a vs:=by
 obtain⟨cs,h⟩:=h
 obtain⟨a,cap,e,j,z⟩:=h.form tF
 exact⟨a,cap,e,j,z⟩
theorem oG {ts:List Tok} {K:Nat->Pr Ty} {s:bS} {a b:Nat} {t:Ty} (h:V1 ts K s a = .inl ((t,false),b)):t=Y7 0 [] [] []:=by
 unfold V1 at h
 split at h
 ·cases hk:K (a+1)with
  | inr e=>rw [hk] at h; cases h
  | inl p=>rw [hk] at h; injection h with h; injection h with h _; injection h with _ h; cases h
 ·injection h with h
  injection h with h _;injection h with h _;exact h.symm
theorem mR (ts:List Tok) (a:Nat):Ng ts a =
  (Ze ts (if Zg ts a [101,120,112,111,114,116] then a+1 else a) [102,110]).go fun _ b=>(Zu ts b).go fun s b=>(Mp ts (Wg ts ts.length 101 0) ts.length b).go fun vs b=>(Ji ts (Wg ts ts.length 101 0) b).go fun h b=>(V1 ts (Wg ts ts.length 101 0) [58] b).go fun y b=>(Ze ts b [61]).go fun _ b=>(Vo ts ts.length 101 false 0 b).go fun x b=>(Ze ts b [59]).go fun _ b =>
   .inl (Mm s (Zg ts a [101,120,112,111,114,116]) vs h.1 [h.2,y.1] x (Yj ts (if Zg ts a [101,120,112,111,114,116] then a+1 else a)) (Yi ts (if Zg ts a [101,120,112,111,114,116] then a+1 else a)),b):=by
 unfold Ng
 simp only
 congr 1
 funext _ b
 congr 1
 funext s b
 congr 1
 funext vs b
 rw [<- gC]
 congr 1
 funext h b
 cases hb:V1 ts (Wg ts ts.length 101 0) [58] b with
 | inr e=>rfl
 | inl p =>
  obtain⟨⟨y,q⟩,c⟩:=p
  cases q with
  | false=>rw [oG hb]; rfl
  | true=>rfl
end Go.Proofs.YtoppemkjhhlegaaGreatDoor
