/- Part. -/
import Derived.Test.YtoppemkjhhlegaaGreatDoorPart33
set_option maxRecDepth 100000
set_option maxHeartbeats 4000000
namespace Go.Proofs.YtoppemkjhhlegaaGreatDoor
open Go.Proofs.Tryz
section
open Go.RowKit
theorem zea {s J:bS} {M z:Bool} {vs A:List (bS×Ty)} {I C:bS} {tys j:List Ty} {B B':Ty} {l H c F:Nat} (h:Mm s M vs I tys B l c=Mm J z A C j B' H F):s=J/\M=z/\vs=A/\I=C/\tys=j/\B=B'/\l=H/\c=F:=by
 unfold Mm at h
 simp only [DataW.agg.injEq,List.cons.injEq,DataW.lit.injEq,Lit.int.injEq,Lit.string.injEq,Lit.bool.injEq,true_and,and_true] at h
 obtain⟨N,Z,V,Y,O,T,h7,h8⟩:=h
 refine⟨N,Z,(List.map_inj_right fun x y e=>?_).1 V,Y,O,T,by omega,by omega⟩
 simp only [DataW.agg.injEq,List.cons.injEq,DataW.lit.injEq,Lit.string.injEq,and_true] at e
 exact Prod.ext e.1 e.2
theorem zec {s z:bS} {ns j:List (bS)} {l C c A:Nat} (h:L5 s ns l c=L5 z j C A):s=z/\ns=j/\l=C/\c=A:=by
 unfold L5 at h
 simp only [DataW.agg.injEq,List.cons.injEq,DataW.lit.injEq,Lit.int.injEq,Lit.string.injEq,true_and,and_true] at h
 obtain⟨F,H,h3,h4⟩:=h
 refine⟨F,(List.map_inj_right fun x y e=>?_).1 H,by omega,by omega⟩
 simp only [DataW.lit.injEq,Lit.string.injEq] at e
 exact e
theorem eX {w:wD} {lo:Nat} {a:oA} {vs:List (bS×Ty)} (h:K4 lo w a vs) {i:Nat} (z:i<vs.length):∃ (g:Nat) (k:Int) (nm:bA) (na:oA) (nl nc:Nat) (ka:oA) (kl kc m:Nat),a=some (aP g 0)/\g<w.heap.size /\
  (d5 w g (i*5) (.string ⟨vs[i].1.toArray⟩) (iP k) (.string nm) (.slice na nl nc) (.slice ka kl kc))/\K0 w lo m (.agg #[iP k,.string nm,.slice na nl nc,.slice ka kl kc]) vs[i].2:=by
 rcases h with rfl | ⟨g,e,_,C,A⟩
 ·cases z
 ·obtain⟨c,h1,j,k,nm,na,nl,nc,ka,kl,kc,rfl,m,F⟩:=A i z
  exact⟨g,k,nm,na,nl,nc,ka,kl,kc,m,e,Lq C,⟨j 0 (by omega),j 1 (by omega),j 2 (by omega),j 3 (by omega),j 4 (by omega)⟩,F⟩
theorem zae {lo lo':Nat} {w:wD} {c c':List vL} {D:Ty} (h:Jn lo w c D) (h':Jn lo' w c' D) :
  Calls prog 22 #[.agg c.toArray,.agg c'.toArray] w fun e w'=>e = .returned (.bool true)/\Below w.heap.size w w':=by
 obtain⟨s,O,vs,va,vc,pm,ta,tc,tys,x,B,li,co,m,rfl,rfl,hvl,Ug,hvs,hts,hx⟩:=h
 obtain⟨s',ex',vs',va',vc',pm',ta',tc',tys',y,B',li',co',m',rfl,e,_,_,hvs',hts',hy⟩:=h'
 obtain⟨rfl,rfl,rfl,rfl,rfl,rfl,rfl,rfl⟩:=zea e
 clear e
 obtain⟨M,Be⟩:∃ M:ByteArray,M=⟨s.toArray⟩:=⟨_,rfl⟩
 obtain⟨S2,Df⟩:∃ S2:ByteArray,S2=⟨pm.toArray⟩:=⟨_,rfl⟩
 (try unfold uP);rw [<- Be,<- Df]
 have e1:(M.toList == M.toList)=true:=by simp
 have e2:(S2.toList == S2.toList)=true:=by simp
 have e3:(O == O)=true:=by simp
 clear Be Df
 obtain⟨W,hW⟩:=xE ((w.alloc (dO M O (.slice va vs.length vc) S2 (.slice ta 2 tc) x li co)).alloc (dO M O (.slice va' vs.length vc') S2 (.slice ta' 2 tc') y li co))
 have N:Below w.heap.size w W:=by rw [hW]; exact Zz (Zq _ _) (Zq _ _)
 have Sj:xQ (W.heap[w.heap.size]?=some (dO M O (.slice va vs.length vc) S2 (.slice ta 2 tc) x li co)):=by rw [hW]; exact(xA (by simp)).trans (xL w _)
 have Sk:xQ (W.heap[w.heap.size+1]?=some (dO M O (.slice va' vs.length vc') S2 (.slice ta' 2 tc') y li co)):=by rw [hW]; exact Bg w _ _
 have Kb:xQ (∀ wx,Below W.heap.size W wx->wx.heap[w.heap.size]?=some (dO M O (.slice va vs.length vc) S2 (.slice ta 2 tc) x li co)/\wx.heap[w.heap.size+1]?=some (dO M O (.slice va' vs.length vc') S2 (.slice ta' 2 tc') y li co)):=fun wx z=>⟨(z.block _ (xB Sj.o)).trans Sj.o,(z.block _ (xB Sk.o)).trans Sk.o⟩
 have Ks:=Za N
 have HVA:=Za (Mq hvs N.size fun b _ hl=>N.block b hl)
 have HVB:=Za (Mq hvs' N.size fun b _ hl=>N.block b hl)
 have To:xQ (∀ wx,Below W.heap.size W wx->Calls prog 34 #[.slice ta 2 tc,.slice ta' 2 tc'] wx fun e w'=>e = .returned (.bool true)/\Below wx.heap.size wx w'):=fun wx z=>by
  have:=nE (max m m') (pH (max m m')) ta ta' tc tc' tys wx (xG (qL (uC hts (Nat.le_max_left _ _))) (Zz N z)) (xG (qL (uC hts' (Nat.le_max_right _ _))) (Zz N z)) (by omega);rw [Ug] at this;exact this
 have Nx:xQ (∀ wx,Below W.heap.size W wx->Calls prog 35 #[x.val,y.val] wx fun e w'=>e = .returned (.bool true)/\Below wx.heap.size wx w'):=fun wx z=>by
  obtain⟨m1,hx⟩:=hx;obtain⟨m2,hy⟩:=hy;exact dU (max m1 m2) x y _ _ _ _ (pD (Ee hx (Nat.le_max_left _ _)) (Zz N z)) (pD (Ee hy (Nat.le_max_right _ _)) (Zz N z))
 clear hvs hvs' hts hts' hx hy N
 obtain⟨⟨x0,x1,x2,x3,x4,x5,x6,x7,x8,x9,J,C,F,H,I⟩,_,zF⟩:=Qw Sj.o
 obtain⟨⟨y0,y1,y2,y3,y4,y5,y6,y7,y8,y9,y10,y11,y12,y13,y14⟩,_,zG⟩:=Qw Sk.o
 go_enter func22,ntmps22
 go_wp2_with fail
 rw [<- hW]
 clear hW
 go_loopw [5] (fun i wx=>∃ j:Nat,i=iP j/\j<=vs.length/\xQ (Below W.heap.size W wx)) (fun i _=>vs.length - (intOf i).toNat)
 case atStart=>exact⟨0,rfl,xZ _,Below.refl _ _⟩
 case round =>
  obtain⟨j,rfl,hj,V⟩:=hrel;clear x0 x1 x2 x3 x4 x5 x6 x7 x8 x9 J C F H I y0 y1 y2 y3 y4 y5 y6 y7 y8 y9 y10 y11 y12 y13 y14 zF zG;obtain⟨⟨x0,x1,x2,x3,x4,x5,x6,x7,x8,x9,J,C,F,H,I⟩,_,zF⟩:=Qw (Kb.o wr V.o).1;obtain⟨⟨y0,y1,y2,y3,y4,y5,y6,y7,y8,y9,y10,y11,y12,y13,y14⟩,_,zG⟩:=Qw (Kb.o wr V.o).2;by_cases Zt:j<vs.length
  ·have Qe:(j:Int)<(vs.length:Int):=by omega
   clear x0 x1 x3 x4 x5 x6 x7 x8 x9 J C F H I y0 y1 y3 y4 y5 y6 y7 y8 y9 y10 y11 y12 y13 y14;obtain⟨g,k1,Y,na1,nl1,nc1,ka1,kl1,Z,m1,rfl,V9,Ti,Uv⟩:=eX HVA.o Zt;obtain⟨g',k2,nm2,na2,nl2,nc2,ka2,kl2,kc2,m2,rfl,Ua,Qd,ht2⟩:=eX HVB.o Zt
   obtain⟨T,Qb⟩:∃ T:ByteArray,T=⟨vs[j].1.toArray⟩:=⟨_,rfl⟩
   (try unfold uP at Ti);(try unfold uP at Qd);rw [<- Qb] at Ti Qd
   have e4:(T.toList == T.toList)=true:=by simp
   have Ho:xQ (∀ wx,Below wr.heap.size wr wx->wx.cell? (aP w.heap.size 2)=some (lP g vs.length vc)/\wx.cell? (aP (w.heap.size+1) 2)=some (lP g' vs.length vc')/\wx.cell? (aP g (j*5))=some (.string T)/\wx.cell? (aP g (j*5+1))=some (iP k1)/\wx.cell? (aP g (j*5+2))=some (.string Y)/\wx.cell? (aP g (j*5+3))=some (.slice na1 nl1 nc1)/\wx.cell? (aP g (j*5+4))=some (.slice ka1 kl1 Z)/\d5 wx g' (j*5) (.string T) (iP k2) (.string nm2) (.slice na2 nl2 nc2) (.slice ka2 kl2 kc2)):=fun wx z=>by
    have A:=Zz V.o z;obtain⟨q0,q1,q2,q3,q4⟩:=Ti;obtain⟨p0,p1,p2,p3,p4⟩:=Qd;exact⟨(Qw (Kb.o wx A).1).1.2.2.1,(Qw (Kb.o wx A).2).1.2.2.1,(A.cell (p:=aP g _) V9).trans q0,(A.cell (p:=aP g _) V9).trans q1,(A.cell (p:=aP g _) V9).trans q2,(A.cell (p:=aP g _) V9).trans q3,(A.cell (p:=aP g _) V9).trans q4,(A.cell (p:=aP g' _) Ua).trans p0,(A.cell (p:=aP g' _) Ua).trans p1,(A.cell (p:=aP g' _) Ua).trans p2,(A.cell (p:=aP g' _) Ua).trans p3,(A.cell (p:=aP g' _) Ua).trans p4⟩
   have HC:xQ (∀ wx,Below wr.heap.size wr wx->Calls prog 33 #[.agg #[iP k1,.string Y,.slice na1 nl1 nc1,.slice ka1 kl1 Z],.agg #[iP k2,.string nm2,.slice na2 nl2 nc2,.slice ka2 kl2 kc2]] wx fun e w'=>e = .returned (.bool true)/\Below wr.heap.size wr w'):=fun wx z =>
    (pH (max m1 m2) _ _ vs[j].2 wx (tD (bZ (Rf Uv (Nat.le_max_left _ _))) (Zz V.o z)) (tD (bZ (Rf ht2 (Nat.le_max_right _ _))) (Zz V.o z))).mono fun e w' ⟨e1,e2⟩=>⟨e1,Zz z e2⟩
   have Uq:=Ho.o wr.drew (Below.refl _ _).drew;clear Ti Qd Uv ht2 Qb;go_wp2_with fail
   go_region_held (fun W=>W.cell? (aP w.heap.size 2)=some (lP g vs.length vc)/\W.cell? (aP (w.heap.size+1) 2)=some (lP g' vs.length vc')/\W.cell? (aP g (j*5))=some (.string T)/\W.cell? (aP g (j*5+1))=some (iP k1)/\W.cell? (aP g (j*5+2))=some (.string Y)/\W.cell? (aP g (j*5+3))=some (.slice na1 nl1 nc1)/\W.cell? (aP g (j*5+4))=some (.slice ka1 kl1 Z)/\d5 W g' (j*5) (.string T) (iP k2) (.string nm2) (.slice na2 nl2 nc2) (.slice ka2 kl2 kc2)) (assumption) (first
    | (go_at_call 33; refine(HC.o _ (by first | exact Below.refl _ _ | exact below_drewN (Below.refl _ _) _ | exact(Below.refl _ _).drew)).mono ?_; rintro e w5 ⟨rfl,Th⟩; have t5:=Ho.o _ Th; have Vm:=Za Th; clear Th))
   all_goals go_wp2_with fail
   all_goals obtain⟨a0,a1,q0,_,_,_,_,p0,_,_,_,_⟩:=t5
   all_goals go_quiet(fail)
   all_goals go_wp2_with fail
   all_goals exact⟨⟨j+1,by go_num,by omega,below_drewN (Zz V.o Vm.o) _⟩,by simp [intOf]; omega⟩
  ·have Qe:¬ (j:Int)<(vs.length:Int):=by omega
   go_wp2_with fail;refine(To.o _ V.o).mono ?_;rintro e w3 ⟨rfl,Ts⟩;have Tn:=Za (Zz V.o Ts);clear Ts x0 x1 x2 x3 x4 x5 x6 x7 x8 x9 J C F H I y0 y1 y2 y3 y4 y5 y6 y7 y8 y9 y10 y11 y12 y13 y14 zF zG;obtain⟨⟨x0,x1,x2,x3,x4,x5,x6,x7,x8,x9,J,C,F,H,I⟩,_,zF⟩:=Qw (Kb.o w3 Tn.o).1;obtain⟨⟨y0,y1,y2,y3,y4,y5,y6,y7,y8,y9,y10,y11,y12,y13,y14⟩,_,zG⟩:=Qw (Kb.o w3 Tn.o).2
   go_wp2_with fail;refine(Nx.o _ Tn.o).mono ?_;rintro e w4 ⟨rfl,Fa⟩;have Hh:=Za (Zz Tn.o Fa);clear Fa;go_wp2_with fail;go_ret;exact⟨rfl,Zz Ks.o Hh.o⟩
theorem gL {w:wD} {lo:Nat} {a:oA} {xs:List Ty} (h:Tf Ky 4 lo w a xs) {i:Nat} (z:i<xs.length):∃ (g:Nat) (s:bS) (l:List (bS)) (na:oA) (nc li co:Nat),a=some (aP g 0)/\g<w.heap.size /\
  (d4 w g (i*4) (.string ⟨s.toArray⟩) (.slice na l.length nc) (iP li) (iP co))/\xs[i]=L5 s l li co/\l.length<=8193/\Id w na l:=by
 rcases h with rfl | ⟨g,e,_,F,A⟩
 ·cases z
 ·obtain⟨c,h1,j,s,l,na,nc,li,co,rfl,H,I,C⟩:=A i z
  exact⟨g,s,l,na,nc,li,co,e,Lq F,⟨j 0 (by omega),j 1 (by omega),j 2 (by omega),j 3 (by omega)⟩,H,I,C.at⟩
theorem kK {w:wD} {lo:Nat} {a:oA} {xs:List Ty} (h:Tf Jn 15 lo w a xs) {i:Nat} (J:i<xs.length):∃ (g:Nat) (c0 c1 c2 c3 c4 c5 c6 M c8 c9 z A H C F:vL),a=some (aP g 0)/\g<w.heap.size/\(d15 w g (i*15) c0 c1 c2 c3 c4 c5 c6 M c8 c9 z A H C F)/\Jn lo w [c0,c1,c2,c3,c4,c5,c6,M,c8,c9,z,A,H,C,F] xs[i]:=by
 rcases h with rfl | ⟨g,e,_,O,N⟩
 ·cases J
 ·obtain⟨c,h1,j,I⟩:=N i J
  have T:=I;obtain⟨s,ex,vs,va,vc,pm,ta,tc,tys,x,B,li,co,m,rfl,_⟩:=T;exact⟨g,_,_,_,_,_,_,_,_,_,_,_,_,_,_,_,e,Lq O,⟨j 0 (by omega),j 1 (by omega),j 2 (by omega),j 3 (by omega),j 4 (by omega),j 5 (by omega),j 6 (by omega),j 7 (by omega),j 8 (by omega),j 9 (by omega),j 10 (by omega),j 11 (by omega),j 12 (by omega),j 13 (by omega),j 14 (by omega)⟩,I⟩
theorem zei {lo lo':Nat} {w:wD} {x y:MV} {D:List Ty×List Ty} (h:Ul lo w x D) (h':Ul lo' w y D) :
  Calls prog 9 #[x.val,y.val] w fun e w'=>e = .returned (.bool true)/\Below w.heap.size w w':=by
 obtain⟨ia,il,ic,da,dl,dc⟩:=x
 obtain⟨ia',il',ic',da',dl',dc'⟩:=y
 obtain⟨h1,h2,h3,h4,hi,hd⟩:=h
 obtain⟨h1',h2',_,_,U5,hd'⟩:=h'
 dsimp only at h1 h2 hi hd h1' h2' U5 hd'
 subst h1 h2 h1' h2'
 obtain⟨is,ds⟩:=D
 dsimp only at h3 h4 hi hd U5 hd' ⊢
 obtain⟨W,hW⟩:=xE ((w.alloc (MV.obj ⟨ia,is.length,ic,da,ds.length,dc⟩)).alloc (MV.obj ⟨ia',is.length,ic',da',ds.length,dc'⟩))
 have J:Below w.heap.size w W:=by rw [hW]; exact Zz (Zq _ _) (Zq _ _)
 have Sj:xQ (W.heap[w.heap.size]?=some (MV.obj ⟨ia,is.length,ic,da,ds.length,dc⟩)):=by rw [hW]; exact(xA (by simp)).trans (xL w _)
 have Sk:xQ (W.heap[w.heap.size+1]?=some (MV.obj ⟨ia',is.length,ic',da',ds.length,dc'⟩)):=by rw [hW]; exact Bg w _ _
 have Kb:xQ (∀ wx,Below W.heap.size W wx->(wx.cell? (aP w.heap.size 0)=some (.slice ia is.length ic)/\wx.cell? (aP w.heap.size 1)=some (.slice da ds.length dc))/\wx.cell? (aP (w.heap.size+1) 0)=some (.slice ia' is.length ic')/\wx.cell? (aP (w.heap.size+1) 1)=some (.slice da' ds.length dc')):=fun wx Vl=>⟨(Nf (x:=⟨ia,is.length,ic,da,ds.length,dc⟩) ((Vl.block _ (xB Sj.o)).trans Sj.o)).1,(Nf (x:=⟨ia',is.length,ic',da',ds.length,dc'⟩) ((Vl.block _ (xB Sk.o)).trans Sk.o)).1⟩
 have Ks:=Za J
 have HIA:=Za (L8 Cj hi J.size fun b _ H=>J.block b H)
 have HIB:=Za (L8 Cj U5 J.size fun b _ H=>J.block b H)
 have HDA:=Za (L8 Ax hd J.size fun b _ H=>J.block b H)
 have HDB:=Za (L8 Ax hd' J.size fun b _ H=>J.block b H)
 clear hi U5 hd hd' J
 obtain⟨⟨x0,x1⟩,y0,y1⟩:=Kb.o W (Below.refl _ _)
 have hlx:=xB Sj.o
 have hly:=xB Sk.o
 go_enter func9,ntmps9
 go_wp2_with fail
 rw [<- hW]
 clear hW
 go_loopw [5] (fun i wx=>∃ j:Nat,i=iP j/\j<=is.length/\xQ (Below W.heap.size W wx)) (fun i _=>is.length - (intOf i).toNat)
 case atStart=>exact⟨0,rfl,xZ _,Below.refl _ _⟩
 case round =>
  obtain⟨j,rfl,hj,F⟩:=hrel;clear x0 x1 y0 y1;obtain⟨⟨x0,x1⟩,y0,y1⟩:=Kb.o wr F.o;have S7:=F.o.size
  have hlx':w.heap.size<wr.heap.size:=by omega
  have hly':w.heap.size+1<wr.heap.size:=by omega
  by_cases Zt:j<is.length
  ·have Qe:(j:Int)<(is.length:Int):=by omega
   obtain⟨g,s,l,na,nc,li,co,rfl,A,⟨N,q1,q2,q3⟩,e1,H,hn⟩:=gL HIA.o Zt;obtain⟨g',s',l',na',nc',li',co',rfl,C,⟨T,p1,p2,p3⟩,e2,_,hn'⟩:=gL HIB.o Zt;obtain⟨rfl,rfl,rfl,rfl⟩:=zec (e1.symm.trans e2)
   obtain⟨I,Be⟩:∃ I:ByteArray,I=⟨s.toArray⟩:=⟨_,rfl⟩
   (try unfold uP at N);(try unfold uP at T);rw [<- Be] at N T
   have e4:(I.toList == I.toList)=true:=by simp
   replace N:=(F.o.cell (p:=aP g _) A).trans N;replace q1:=(F.o.cell (p:=aP g _) A).trans q1;replace q2:=(F.o.cell (p:=aP g _) A).trans q2;replace q3:=(F.o.cell (p:=aP g _) A).trans q3;replace T:=(F.o.cell (p:=aP g' _) C).trans T;replace p1:=(F.o.cell (p:=aP g' _) C).trans p1;replace p2:=(F.o.cell (p:=aP g' _) C).trans p2;replace p3:=(F.o.cell (p:=aP g' _) C).trans p3
   replace A:=xT A S7;replace C:=xT C S7;have HN:=Za hn;have HN':=Za hn';clear e1 e2 Be hn hn';go_wp2_with fail;have Th:Below wr.heap.size wr ((wr.alloc (.cells #[.string I,.slice na l.length nc,iP li,iP co] 68)).alloc (.cells #[.string I,.slice na' l.length nc',iP li,iP co] 68)):=Zz (Zq _ _) (Zq _ _);have HXC:=Za ((Below.heap_alloc (wr.alloc (.cells #[.string I,.slice na l.length nc,iP li,iP co] 68)) (.cells #[.string I,.slice na' l.length nc',iP li,iP co] 68) _ (by rw [xS]; omega)).trans (xL wr _))
   have HXD:=Za (Bg wr (.cells #[.string I,.slice na l.length nc,iP li,iP co] 68) (.cells #[.string I,.slice na' l.length nc',iP li,iP co] 68));have Vm:=Za (Zz F.o Th);refine(bW na na' nc nc' l _ (zP HN.o Vm.o) (zP HN'.o Vm.o) (by omega)).mono ?_;rintro e w6 ⟨rfl,q,rfl⟩;clear Th N q1 q2 q3 T p1 p2 p3;generalize (wr.alloc (.cells #[.string I,.slice na l.length nc,iP li,iP co] 68)).alloc (.cells #[.string I,.slice na' l.length nc',iP li,iP co] 68)=W5 at HXC HXD Vm ⊢
   obtain⟨⟨N,q1,q2,q3⟩,_,Py⟩:=Yh HXC.o;obtain⟨⟨T,p1,p2,p3⟩,_,Ys⟩:=Yh HXD.o;go_wp2_with fail;exact⟨⟨j+1,by go_num,by omega,below_drewN Vm.o q⟩,by simp [intOf]; omega⟩
  ·have Qe:¬ (j:Int)<(is.length:Int):=by omega
   go_wp2_with fail
   go_loopw [9] (fun i wx=>∃ j:Nat,i=iP j/\j<=ds.length/\xQ (Below W.heap.size W wx)) (fun i _=>ds.length - (intOf i).toNat)
   case atStart=>exact⟨0,rfl,xZ _,F⟩
   case round =>
    clear x0 x1 y0 y1 F S7 hlx' hly' hj Zt Qe;obtain⟨j,rfl,hj,F⟩:=hrel;obtain⟨⟨x0,x1⟩,y0,y1⟩:=Kb.o _ F.o;by_cases Zt:j<ds.length
    ·have Qe:(j:Int)<(ds.length:Int):=by omega
     obtain⟨g,c0,c1,c2,c3,c4,c5,c6,c7,c8,c9,V,O,M,Y,Z,rfl,A,Ti,Uv⟩:=kK HDA.o Zt;obtain⟨g',d0,d1,d2,d3,d4,d5,d6,d7,d8,d9,d10,d11,d12,d13,d14,rfl,C,Qd,ht2⟩:=kK HDB.o Zt
     have Ho:xQ (∀ wx,Below wr.heap.size wr wx->wx.cell? (aP w.heap.size 1)=some (lP g ds.length dc)/\wx.cell? (aP (w.heap.size+1) 1)=some (lP g' ds.length dc')/\wx.cell? (aP g (j*15))=some c0/\wx.cell? (aP g (j*15+1))=some c1/\wx.cell? (aP g (j*15+2))=some c2/\wx.cell? (aP g (j*15+3))=some c3/\wx.cell? (aP g (j*15+4))=some c4/\wx.cell? (aP g (j*15+5))=some c5/\wx.cell? (aP g (j*15+6))=some c6/\wx.cell? (aP g (j*15+7))=some c7/\wx.cell? (aP g (j*15+8))=some c8/\wx.cell? (aP g (j*15+9))=some c9/\wx.cell? (aP g (j*15+10))=some V/\wx.cell? (aP g (j*15+11))=some O/\wx.cell? (aP g (j*15+12))=some M/\wx.cell? (aP g (j*15+13))=some Y/\wx.cell? (aP g (j*15+14))=some Z/\d15 wx g' (j*15) d0 d1 d2 d3 d4 d5 d6 d7 d8 d9 d10 d11 d12 d13 d14):=fun wx Vl=>by
      have z:=Zz F.o Vl;obtain⟨⟨_,a1⟩,_,b1⟩:=Kb.o wx z;obtain⟨N,q1,q2,q3,q4,q5,q6,q7,q8,q9,q10,q11,q12,q13,q14⟩:=Ti;obtain⟨T,p1,p2,p3,p4,p5,p6,p7,p8,p9,p10,p11,p12,p13,p14⟩:=Qd;exact⟨a1,b1,(z.cell (p:=aP g _) A).trans N,(z.cell (p:=aP g _) A).trans q1,(z.cell (p:=aP g _) A).trans q2,(z.cell (p:=aP g _) A).trans q3,(z.cell (p:=aP g _) A).trans q4,(z.cell (p:=aP g _) A).trans q5,(z.cell (p:=aP g _) A).trans q6,(z.cell (p:=aP g _) A).trans q7,(z.cell (p:=aP g _) A).trans q8,(z.cell (p:=aP g _) A).trans q9,(z.cell (p:=aP g _) A).trans q10,(z.cell (p:=aP g _) A).trans q11,(z.cell (p:=aP g _) A).trans q12,(z.cell (p:=aP g _) A).trans q13,(z.cell (p:=aP g _) A).trans q14,(z.cell (p:=aP g' _) C).trans T,(z.cell (p:=aP g' _) C).trans p1,(z.cell (p:=aP g' _) C).trans p2,(z.cell (p:=aP g' _) C).trans p3,(z.cell (p:=aP g' _) C).trans p4,(z.cell (p:=aP g' _) C).trans p5,(z.cell (p:=aP g' _) C).trans p6,(z.cell (p:=aP g' _) C).trans p7,(z.cell (p:=aP g' _) C).trans p8,(z.cell (p:=aP g' _) C).trans p9,(z.cell (p:=aP g' _) C).trans p10,(z.cell (p:=aP g' _) C).trans p11,(z.cell (p:=aP g' _) C).trans p12,(z.cell (p:=aP g' _) C).trans p13,(z.cell (p:=aP g' _) C).trans p14⟩
     have HC:xQ (∀ wx,Below wr.heap.size wr wx->Calls prog 22 #[.agg #[c0,c1,c2,c3,c4,c5,c6,c7,c8,c9,V,O,M,Y,Z],.agg #[d0,d1,d2,d3,d4,d5,d6,d7,d8,d9,d10,d11,d12,d13,d14]] wx fun e w'=>e = .returned (.bool true)/\Below wr.heap.size wr w'):=fun wx Vl=>by
      have z:=Zz F.o Vl
      exact(zae (Ax.keep Uv z.size fun b _ H=>z.block b H) (Ax.keep ht2 z.size fun b _ H=>z.block b H)).mono fun e w' ⟨e1,e2⟩=>⟨e1,Zz Vl e2⟩
     have Uq:=Ho.o wr.drew (Below.refl _ _).drew;clear Ti Qd Uv ht2;go_wp2_with fail
     go_region_held (fun W=>W.cell? (aP w.heap.size 1)=some (lP g ds.length dc)/\W.cell? (aP (w.heap.size+1) 1)=some (lP g' ds.length dc')/\W.cell? (aP g (j*15))=some c0/\W.cell? (aP g (j*15+1))=some c1/\W.cell? (aP g (j*15+2))=some c2/\W.cell? (aP g (j*15+3))=some c3/\W.cell? (aP g (j*15+4))=some c4/\W.cell? (aP g (j*15+5))=some c5/\W.cell? (aP g (j*15+6))=some c6/\W.cell? (aP g (j*15+7))=some c7/\W.cell? (aP g (j*15+8))=some c8/\W.cell? (aP g (j*15+9))=some c9/\W.cell? (aP g (j*15+10))=some V/\W.cell? (aP g (j*15+11))=some O/\W.cell? (aP g (j*15+12))=some M/\W.cell? (aP g (j*15+13))=some Y/\W.cell? (aP g (j*15+14))=some Z/\d15 W g' (j*15) d0 d1 d2 d3 d4 d5 d6 d7 d8 d9 d10 d11 d12 d13 d14) (assumption) (first
      | (go_at_call 22; refine(HC.o _ (by first | exact Below.refl _ _ | exact below_drewN (Below.refl _ _) _ | exact(Below.refl _ _).drew)).mono ?_; rintro e w5 ⟨rfl,Th⟩; have t5:=Ho.o _ Th; have Vm:=Za Th; clear Th))
     all_goals go_wp2_with fail
     all_goals exact⟨⟨j+1,by go_num,by omega,Zz F.o Vm.o⟩,by simp [intOf]; omega⟩
    ·have Qe:¬ (j:Int)<(ds.length:Int):=by omega
     go_wp2_with fail;go_ret;exact⟨rfl,Zz Ks.o F.o⟩
end
section
open Go.RowKit Go.Maps
theorem zdi {l:List (Bs×Bs)} {x:Lk} (h:Tc l = .inl x):x.scopes.length=x.mods.length:=by
 unfold Tc at h
 simp only at h
 split at h
 ·cases h
 split at h
 ·cases h
 split at h
 ·cases h
 split at h
 ·cases h
 injection h with h
 subst h
 show(Pk _ _ _ _ _ _).1.length=_
 rw [aR]
 simp
theorem aU {lo:Nat} {w:wD} {x:Lk} {r:Rw} {aS:oA} {cS:Nat} {vs:List vL} (h:O2 lo w x r aS cS vs) {i:Nat} (N:i<x.scopes.length):∃ z a c,aS=some (aP z 0)/\z<w.heap.size/\w.cell? (aP z i)=some (.slice a x.scopes[i].length c)/\mJ w a x.scopes[i]/\x.scopes[i].length<=9223372036854775807:=by
 have hvl:vs.length=x.scopes.length:=by have:=h.rS.1; omega
 obtain⟨z,e,_,M,C⟩:=wI h.rS (by omega)
 have A:=h.rE i (by omega) N
 obtain⟨a,c,H⟩:=Yt A
 have T:w.cell? (aP z i)=some (.slice a x.scopes[i].length c):=by
  rw [C i (by omega),List.getElem?_eq_getElem (by omega:i<vs.length),H]
 rw [H] at A
 refine⟨z,a,c,e,M,T,fun k F=>?_,?_⟩
 ·obtain⟨g,J,_,O,I⟩:=wI A (by omega)
  refine⟨g,J,O,fun j Y=>?_⟩;have:=Ij (k:=3) (x.scopes[i].map Qa) (by intro c C; obtain⟨d,_,rfl⟩:=List.mem_map.1 C; rfl) k (by simpa using F) j Y;rw [<- List.flatMap_def,List.getElem_map] at this;rw [I _ (by omega),this,List.getD_eq_getElem?_getD,List.getElem?_eq_getElem F,Option.getD_some]
 ·rcases A.2 with⟨_,e⟩ | ⟨g,c,cur,e,_,_,h1,V,_⟩
  ·omega
  ·unfold maxLen at V
   omega
def yD (w:wD) (a:oA) (ds:List Dg):Prop:=∀ k (_:k<ds.length),∃ g,a=some (aP g 0)/\g<w.heap.size/\∀ j,j<4->w.cell? (aP g (k*4+j))=(U3 ds[k])[j]?
theorem yD.below {w w':wD} {a:oA} {ds:List Dg} (h:yD w a ds) (A:Below w.heap.size w w'):yD w' a ds:=fun k I=>by
 obtain⟨g,F,z,C⟩:=h k I
 exact⟨g,F,xT z A.size,fun j H=>(A.cell (p:=(aP g (k*4+j))) z).trans (C j H)⟩
theorem kV {lo:Nat} {w:wD} {v:vL} {ds:List Dg} (h:w.ownsRow lo 47 4 v ds.length (ds.flatMap U3)):∃ a c,v = .slice a ds.length c/\yD w a ds/\ds.length<=9223372036854775807:=by
 obtain⟨a,c,rfl⟩:=Yt h
 refine⟨a,c,rfl,fun k C=>?_,?_⟩
 ·obtain⟨g,A,_,H,z⟩:=wI h (by omega)
  refine⟨g,A,H,fun j J=>?_⟩;have:=Ij (k:=4) (ds.map U3) (by intro c F; obtain⟨d,_,rfl⟩:=List.mem_map.1 F; rfl) k (by simpa using C) j J;rw [<- List.flatMap_def,List.getElem_map] at this;rw [z _ (by omega),this]
 ·rcases h.2 with⟨_,e⟩ | ⟨g,c,cur,e,_,_,h1,I,_⟩
  ·omega
  ·unfold maxLen at I
   omega
theorem kW (a b:oA) (H F:Nat) (ds:List Dg) (w:wD) (ha:yD w a ds) (A:yD w b ds) (hl:(ds.length:Int)<=9223372036854775807) :
  Calls prog 8 #[.slice a ds.length H,.slice b ds.length F] w fun e w'=>e = .returned (.bool true)/\∃ q,w'=w.drewN q:=by
 have J:=Za ha
 have C:=Za A
 clear ha A
 go_enter func8,ntmps8
 go_wp2_with fail
 go_loopw [5] (fun i wr=>∃ k q:Nat,k<=ds.length/\i=iP k/\wr=w.drewN q) (fun i _=>ds.length - (intOf i).toNat)
 case atStart=>exact⟨0,0,by omega,rfl,rfl⟩
 case round =>
  obtain⟨k,q,hk,rfl,rfl⟩:=hrel;by_cases z:k<ds.length
  ·have I:(k:Int)<(ds.length:Int):=by omega
   obtain⟨g,rfl,hg,h⟩:=J.o k z;obtain⟨g',rfl,Qp,Qc⟩:=C.o k z;obtain⟨E,j⟩:=xE (ds[k]);rw [<- j] at h Qc;have t0:w.cell? (aP g (k*4))=some (iP E.m):=h 0 (by omega);have t1:w.cell? (aP g (k*4+1))=some (iP E.li):=h 1 (by omega);have t2:w.cell? (aP g (k*4+2))=some (iP E.co):=h 2 (by omega);have t3:w.cell? (aP g (k*4+3))=some (iP E.er):=h 3 (by omega)
   have q0:w.cell? (aP g' (k*4))=some (iP E.m):=Qc 0 (by omega);have q1:w.cell? (aP g' (k*4+1))=some (iP E.li):=Qc 1 (by omega);have q2:w.cell? (aP g' (k*4+2))=some (iP E.co):=Qc 2 (by omega);have q3:w.cell? (aP g' (k*4+3))=some (iP E.er):=Qc 3 (by omega);clear h Qc j;go_wp2_with fail
   go_quiet(fail)
   all_goals go_wp2_with fail
   exact⟨⟨k+1,_,by omega,by go_num,rfl⟩,by simp [intOf]; omega⟩
  ·have I:¬ (k:Int)<(ds.length:Int):=by omega
   go_wp2_with fail;go_ret;exact⟨rfl,q,rfl⟩
theorem fZ {lo:Nat} {w w':wD} {x:MV} {D:List Ty×List Ty} (h:Ul lo w x D) (j:Below w.heap.size w w'):Ul lo w' x D :=
 ⟨h.1,h.2.1,h.2.2.1,h.2.2.2.1,L8 Cj h.2.2.2.2.1 j.size fun b _ z=>j.block b z,L8 Ax h.2.2.2.2.2 j.size fun b _ z=>j.block b z⟩
section
variable {lo cS : Nat} {w w' : wD} {x : Lk} {r : Rw} {aS : oA} {vs : List vL}
theorem O2.below (h:O2 lo w x r aS cS vs) (j:Below w.heap.size w w'):O2 lo w' x r aS cS vs :=
 ⟨L8 wQ h.rN j.size fun b _ z=>j.block b z,L8 Cn h.rM j.size fun b _ z=>j.block b z,J8 h.rS j,fun i A C=>J8 (h.rE i A C) j,h.good,h.ml⟩
theorem O2.mod (h:O2 lo w x r aS cS vs) {k:Nat} (z:k<x.mods.length):∃ (g:Nat) (y:MV),r.aM=some (aP g 0)/\g<w.heap.size/\w.cell? (aP g (k*2))=some (.slice y.ia y.il y.ic)/\w.cell? (aP g (k*2+1))=some (.slice y.da y.dl y.dc)/\Ul lo w y x.mods[k].tr:=by
 obtain⟨g,e,_,A,c,_,j,y,rfl,C⟩:=Re h.rM z
 exact⟨g,y,e,A,j 0 (by omega),j 1 (by omega),C.2.2.2.2.2.2⟩
end
theorem linkModules_walk (a:oA) (cap:Nat) (l:List G1) (w:wD) (hw:Lx.Words w) (hs:Kz w.heap.size w a l/\(∀ p ∈ l,p.1.size<=140737488351232/\p.2.size<=140737488351232)/\(l.length:Int)<=9223372036854775807) :
  Calls prog 3 #[.slice a l.length cap] w fun e w'=>e = .returned (.bool true)/\Below w.heap.size w w':=by
 have HW:=Za hw
 have HS:=Za hs.1
 have HZ:=Za hs.2.1
 have hl:=hs.2.2
 have HA:=Za (oC w hw)
 clear hw hs
 go_enter func3,ntmps3
 go_wp2_with fail
 refine HA.o.mono ?_
 rintro e w1 ⟨rfl,Zs⟩
 have Ye:=Za Zs
 have Y5:=Za (HS.o.below Zs)
 clear Zs HA
 go_wp2_with fail
 refine(few_c _ a cap l w1 Y5.o hl HZ.o).mono ?_
 rintro e w1' ⟨rfl,b,rfl,hb20⟩
 cases b with
 | false =>
  clear hb20;go_wp2_with fail;go_ret;exact⟨rfl,Ye.o⟩
 | true =>
  have h20:=hb20 rfl;clear hb20;go_wp2_with fail;refine(nH a cap l _ (HW.o.below Ye.o) (Y5.o.mono Ye.o.size) (by omega) HZ.o).mono ?_;intro e w2 Zh;obtain⟨Z5,hm⟩:=Zh;have Xa:=Za (Zz Ye.o Z5)
  have Kc:xQ (∀ W,Below w2.heap.size w2 W->Calls prog 7 #[.slice a l.length cap] W (wZ W (Tc (Y3 l)))):=fun W A=>zgd a cap l W ((HS.o.below (Zz Xa.o A)).mono (Zz Xa.o A).size) (by omega) HZ.o
  clear Z5
  cases hR:Tc (Y3 l)with
  | inr ds =>
   rw [hR] at hm Kc;obtain⟨vD,rfl,Yu⟩:=hm;obtain⟨aD,cD,rfl,hD,Ws⟩:=kV Yu;have HD:=Za hD
   have hdz:((ds.length:Int)<=9223372036854775807):=by omega
   clear hR Yu hD;go_wp2_with fail;obtain⟨Z,V⟩:=xE (w2.alloc z6);obtain⟨pb,Xo⟩:=xE w2.heap.size
   have Tn:xQ (Below w2.heap.size w2 Z):=by rw [V]; exact Zq _ _
   have HP:xQ (Z.heap[pb]?=some z6):=by rw [V,Xo]; exact xL _ _
   have j:=V;unfold z6 Kq at j;rw [<- j,<- Xo];clear j V Xo;refine(Kc.o Z Tn.o).mono ?_;intro e O Zh;obtain⟨Ts,vE,rfl,Yu⟩:=Zh;obtain⟨aE,cE,rfl,hE,_⟩:=kV Yu;have HE:=Za hE;have Hh:=Za (Zz Tn.o Ts);have M0:=Za ((Ts.block _ (xB HP.o)).trans HP.o);clear Yu hE Ts Kc HP Tn;go_wp2_with fail;obtain⟨F,T⟩:=xE (O.alloc z6);obtain⟨Y,z⟩:=xE O.heap.size
   have N:xQ (Below O.heap.size O F):=by rw [T]; exact Zq _ _
   have HQ:xQ (F.heap[Y]?=some z6):=by rw [T,z]; exact xL _ _
   have j:=T;unfold z6 Kq at j;rw [<- j,<- z];clear j T z;refine(kW aD aE cD cE ds F (HD.o.below (Zz Hh.o N.o)) (HE.o.below N.o) hdz).mono ?_;rintro e w4 ⟨rfl,nq,rfl⟩;have I:=Za (below_drewN (Zz Xa.o (Zz Hh.o N.o)) nq);have H:xQ ((F.drewN nq).heap[pb]?=some z6):=(N.o.block _ (xB M0.o)).trans M0.o;have C:xQ ((F.drewN nq).heap[Y]?=some z6):=HQ.o;clear M0 HQ N Hh
   generalize F.drewN nq=W4 at I H C ⊢;obtain⟨⟨p0,p1,p2,p3,p4,p5⟩,_,Ys⟩:=Pc H.o;obtain⟨⟨q0,q1,q2,q3,q4,q5⟩,_,Py⟩:=Pc C.o;go_wp2_with fail
   go_loopw [10] (fun i wr=>i=iP 0/\xQ (wr=W4)) (fun _ _=>0)
   case atStart=>exact⟨rfl,rfl⟩
   case round =>
    obtain⟨rfl,S7⟩:=hrel;have hwe:=S7.o;subst hwe;go_wp2_with fail;go_ret;exact⟨rfl,I.o⟩
  | inl x =>
   rw [hR] at hm Kc;obtain⟨r,aS,cS,vs,rfl,hL⟩:=hm;have HL:=Za hL;have Mj:=zdf hR;have hsm:=zdi hR;have Uu:x.mods.length<=16:=hL.ml
   have Yb:x.names.length<=16:=by omega
   have L2:x.scopes.length<=16:=by omega
   have HEq:xQ (x.names.length=x.mods.length/\x.scopes.length=x.mods.length):=⟨by omega,hsm⟩
   clear hR hL Mj hsm;go_wp2_with fail;obtain⟨ob,hob⟩:=xE (Kq (.slice r.aN x.names.length r.cN) (.slice r.aM x.mods.length r.cM) (.slice aS x.scopes.length cS) (.string Uc) (iP x.main.1) (iP x.main.2));obtain⟨Z,V⟩:=xE (w2.alloc ob);obtain⟨pb,Xo⟩:=xE w2.heap.size
   have Tn:xQ (Below w2.heap.size w2 Z):=by rw [V]; exact Zq _ _
   have HP:xQ (Z.heap[pb]?=some ob):=by rw [V,Xo]; exact xL _ _
   have j:=hob;unfold Kq at j;rw [<- j,<- V,<- Xo];have HOb:=Za hob;clear j V Xo hob;refine(Kc.o Z Tn.o).mono ?_;intro e O Zh;obtain⟨Ts,r',aS',cS',vs',rfl,hL'⟩:=Zh;have HL':=Za hL';have Hh:=Za (Zz Tn.o Ts);have M0:=Za ((Ts.block _ (xB HP.o)).trans HP.o);clear hL' Ts Kc HP Tn;go_wp2_with fail;obtain⟨oq,hoq⟩:=xE (Kq (.slice r'.aN x.names.length r'.cN) (.slice r'.aM x.mods.length r'.cM) (.slice aS' x.scopes.length cS') (.string Uc) (iP x.main.1) (iP x.main.2))
   obtain⟨F,T⟩:=xE (O.alloc oq);obtain⟨Y,z⟩:=xE O.heap.size
   have N:xQ (Below O.heap.size O F):=by rw [T]; exact Zq _ _
   have HQ:xQ (F.heap[Y]?=some oq):=by rw [T,z]; exact xL _ _
   have j:=hoq;unfold Kq at j;rw [<- j,<- T,<- z];have HOq:=Za hoq;clear j T z hoq;refine(kW none none 0 0 [] F (fun _ h=>nomatch h) (fun _ h=>nomatch h) (by decide)).mono ?_;rintro e w4 ⟨rfl,nq,rfl⟩;have I:=Za (below_drewN (Zz Xa.o (Zz Hh.o N.o)) nq);have H:xQ ((F.drewN nq).heap[pb]?=some ob):=(N.o.block _ (xB M0.o)).trans M0.o;have C:xQ ((F.drewN nq).heap[Y]?=some oq):=HQ.o
   have HLp:=Za ((HL.o.below Hh.o).below (below_drewN N.o nq));have HLq:=Za (HL'.o.below (below_drewN N.o nq));clear M0 HQ N Hh HL HL';generalize F.drewN nq=W4 at I H C HLp HLq ⊢;have hO:=H.o;rw [HOb.o] at hO;obtain⟨⟨p0,p1,p2,p3,p4,p5⟩,_,Ys⟩:=Pc hO;have hQ:=C.o;rw [HOq.o] at hQ;obtain⟨⟨q0,q1,q2,q3,q4,q5⟩,_,Py⟩:=Pc hQ
   have hmz:((x.mods.length:Int)<=9223372036854775807):=by omega
   have hnz:((x.names.length:Int)<=9223372036854775807):=by omega
   have hsz:((x.scopes.length:Int)<=9223372036854775807):=by omega
   clear hO hQ;go_wp2_with fail;clear p0 p1 p2 p3 p4 p5 q0 q1 q2 q3 q4 q5
   go_loopw [10] (fun i wr=>∃ k:Nat,k<=x.mods.length/\i=iP k/\xQ (Below W4.heap.size W4 wr)) (fun i _=>x.mods.length - (intOf i).toNat)
   case atStart=>exact⟨0,xZ _,rfl,Below.refl _ _⟩
   case round =>
    obtain⟨k,hk,rfl,Bx⟩:=hrel
    have HX:xQ (∀ W,Below wr.heap.size wr W->(c3 W pb (.slice r.aN x.names.length r.cN) (.slice r.aM x.mods.length r.cM) (.slice aS x.scopes.length cS))/\(c3 W Y (.slice r'.aN x.names.length r'.cN) (.slice r'.aM x.mods.length r'.cM) (.slice aS' x.scopes.length cS'))/\pb<W.heap.size/\Y<W.heap.size):=fun W A=>by
     have hB:=Zz Bx.o A;have h1:=(hB.block _ Ys).trans H.o;rw [HOb.o] at h1;have h2:=(hB.block _ Py).trans C.o;rw [HOq.o] at h2;obtain⟨⟨c0,c1,c2,_⟩,_,h3⟩:=Pc h1;obtain⟨⟨j,e1,e2,_⟩,_,h4⟩:=Pc h2;exact⟨⟨c0,c1,c2⟩,⟨j,e1,e2⟩,h3,h4⟩
    obtain⟨⟨_,p1,_⟩,⟨_,q1,_⟩,hpl1,hql1⟩:=HX.o wr (Below.refl _ _);by_cases Z8:k<x.mods.length
    ·have Un:(k:Int)<(x.mods.length:Int):=by omega
     have M:=Za (HLp.o.below Bx.o);have J:=Za (HLq.o.below Bx.o);obtain⟨g,y,G9,hg,c0,c1,hy⟩:=M.o.mod Z8;obtain⟨g',y',Ip,Qp,d0,d1,J4⟩:=J.o.mod Z8
     have HM:xQ (∀ W,Below wr.heap.size wr W->Calls prog 9 #[.agg #[.slice y.ia y.il y.ic,.slice y.da y.dl y.dc],.agg #[.slice y'.ia y'.il y'.ic,.slice y'.da y'.dl y'.dc]] W fun e w'=>e = .returned (.bool true)/\Below wr.heap.size wr w'):=fun W A=>(zei (fZ hy A) (fZ J4 A)).mono fun _ _ h=>⟨h.1,Zz A h.2⟩
     have Ho:xQ (∀ W,Below wr.heap.size wr W->W.cell? (aP pb 1)=some (.slice (some (aP g 0)) x.mods.length r.cM)/\W.cell? (aP Y 1)=some (.slice (some (aP g' 0)) x.mods.length r'.cM)/\W.cell? (aP g (k*2))=some (.slice y.ia y.il y.ic)/\W.cell? (aP g (k*2+1))=some (.slice y.da y.dl y.dc)/\W.cell? (aP g' (k*2))=some (.slice y'.ia y'.il y'.ic)/\W.cell? (aP g' (k*2+1))=some (.slice y'.da y'.dl y'.dc)):=fun W A =>
      ⟨by rw [<- G9]; exact(HX.o W A).1.2.1,by rw [<- Ip]; exact(HX.o W A).2.1.2.1,(A.cell (p:=aP g _) hg).trans c0,(A.cell (p:=aP g _) hg).trans c1,(A.cell (p:=aP g' _) Qp).trans d0,(A.cell (p:=aP g' _) Qp).trans d1⟩
     have Uq:=Ho.o wr.drew (Below.refl _ _).drew;clear hy J4 c0 c1 d0 d1 G9 Ip;go_wp2_with fail;clear p1 q1
     go_region_held (fun W=>W.cell? (aP pb 1)=some (.slice (some (aP g 0)) x.mods.length r.cM)/\W.cell? (aP Y 1)=some (.slice (some (aP g' 0)) x.mods.length r'.cM)/\W.cell? (aP g (k*2))=some (.slice y.ia y.il y.ic)/\W.cell? (aP g (k*2+1))=some (.slice y.da y.dl y.dc)/\W.cell? (aP g' (k*2))=some (.slice y'.ia y'.il y'.ic)/\W.cell? (aP g' (k*2+1))=some (.slice y'.da y'.dl y'.dc)) (assumption) (first
      | (go_at_call 9; refine(HM.o _ (by first | exact Below.refl _ _ | exact below_drewN (Below.refl _ _) _ | exact(Below.refl _ _).drew)).mono ?_; rintro e w6 ⟨rfl,Ss⟩; have t5:=Ho.o _ Ss; have yE:=Za Ss; clear Ss))
     have Tt:k<x.scopes.length:=by have:=HEq.o.2; omega
     have Bk:k<x.names.length:=by have:=HEq.o.1; omega
     have hk2':(k:Int)<(x.scopes.length:Int):=by omega
     have hk3':(k:Int)<(x.names.length:Int):=by omega
     have HB6:=Za (Zz Bx.o yE.o);obtain⟨⟨a0,a1,a2⟩,⟨b0,b1,b2⟩,hpl6,hql6⟩:=HX.o w6 yE.o;obtain⟨gS,ai,ci,haS,hgS,s1,hE1,Fd⟩:=aU (M.o.below yE.o) Tt;obtain⟨gS',ai',ci',haS',hgS',s2,hE2,_⟩:=aU (J.o.below yE.o) Tt;obtain⟨gn,han,hgn,n1⟩:=pU (M.o.below yE.o).rN k Bk;obtain⟨gn',han',hgn',n2⟩:=pU (J.o.below yE.o).rN k Bk;obtain⟨es,hes⟩:=xE (x.scopes[k])
     rw [<- hes] at s1 s2 hE1 hE2 Fd
     obtain⟨nm,Mj⟩:∃ nm:ByteArray,nm=⟨x.names[k].toArray⟩:=⟨_,rfl⟩
     (try unfold uP at n1);(try unfold uP at n2);rw [<- Mj] at n1 n2;rw [haS] at a2;rw [haS'] at b2;rw [han] at a0;rw [han'] at b0
     have HE:xQ (∀ n,Calls prog 10 #[.slice ai es.length ci,.slice ai' es.length ci'] (w6.drewN n) fun e w'=>e = .returned (.bool true)/\∃ q,w'=(w6.drewN n).drewN q):=fun n=>zao ai ai' ci ci' es (w6.drewN n) hE1 hE2 (by omega)
     have hnn:(nm.toList == nm.toList)=true:=by simp
     clear hE1 hE2 hes Mj HM Ho Uq t5 a1 b1 haS haS' han han';go_wp2_with fail
     go_quiet((go_at_call 10; refine(HE.o _).mono ?_; rintro _ _ ⟨h1,m,hm⟩; exact⟨h1,_,by rw [hm,World.drewN_drewN]⟩))
     go_wp2_with fail
     go_quiet(fail)
     all_goals go_wp2_with fail
     exact⟨⟨k+1,by omega,by go_num,below_drewN HB6.o _⟩,by simp [intOf]; omega⟩
    ·have Un:¬ (k:Int)<(x.mods.length:Int):=by omega
     go_wp2_with fail;go_ret;exact⟨rfl,Zz I.o Bx.o⟩
end
end Go.Proofs.YtoppemkjhhlegaaGreatDoor
