/- Part. -/
import Derived.Test.YtoppemkjhhlegaaGreatDoorPart22
set_option maxRecDepth 100000
set_option maxHeartbeats 4000000
namespace Go.Proofs.YtoppemkjhhlegaaGreatDoor
open Go.Proofs.Tryz
open Go.RowKit
section
attribute [local go_sem ↓] Go.wp_at_zero Go.wp_at_succ
theorem RX.setB {pb tb cap d b:Nat} {ts:List Tok} {w0 w:wD} {S:Yd} {bx:List (Nat×Obj)} {cs:Array vL} {t:TypeId} (h:RX pb tb cap ts w0 w d S ((b,.cells cs t) :: bx)) (C:∀ p ∈ bx,p.1≠b) (o:Nat) (u:vL):RX pb tb cap ts w0 (w.setCell (aP b o) u) d S ((b,.cells (cs.setIfInBounds o u) t) :: bx):=by
 have A:=(h.has _ (xM)).2
 have z:=h.hp
 refine⟨h.st.own z A o _,h.at_.other (xT z A) o _,z,fun p j=>?_⟩
 rcases List.mem_cons.1 j with rfl | j
 ·exact⟨Y1 (h.box (xM)),A⟩
 ·exact⟨(xH (C p j)).trans (h.box (xW _ j)),(h.has p (xW _ j)).2⟩
theorem kids1 {lo g:Nat} {w:wD} {k:Int} {nm:bA} {na:oA} {nl nc:Nat} {ka:oA} {kl kc:Nat} {D:Ty} (h:Yk lo w (.agg #[iP k,.string nm,.slice na nl nc,.slice ka kl kc]) D) (j:w.heap[g]?=some (Z7 k nm na nl nc ka kl kc)) (A:lo<=g):∃ m,Qk w lo m (some (aP g 0)) [D]:=by
 obtain⟨m,h⟩:=h
 refine⟨m,.inr ⟨g,0,rfl,A,⟨_,_,j⟩,fun i z=>?_⟩⟩
 match i,z with
 | 0,_=>exact⟨_,_,_,_,by rw [cell_of_row _ _ _ _ _ _ j]; rfl,by rw [cell_of_row _ _ _ _ _ _ j]; rfl,by rw [cell_of_row _ _ _ _ _ _ j]; rfl,by rw [cell_of_row _ _ _ _ _ _ j]; rfl,h⟩
def Tr:List (bS):=[[60],[60,61],[61,61]]
def E6 (ts:List Tok) (K sub:Nat->Pr Ty) (x:Ty) (a:Nat):Pr Ty:=match Tr.find? (Zg ts a)with
 | some s=>(sub (a+1)).go fun y b => .inl (Zp 14 s 0 (Yj ts a) (Yi ts a) [] [] [x,y],b)
 | none =>
  if Zg ts a [97,115] then(K (a+1)).go fun t b => .inl (Zp 13 [] 0 (Yj ts a) (Yi ts a) [t] [] [x],b)
  else if Zg ts a [105,115] then match Qj.findIdx? (Zg ts (a+1))with
   | some i => .inl (Zp 12 [] i (Yj ts a) (Yi ts a) [] [] [x],a+2)
   | none=>Vj ts 7 (a+1)
  else .inl (x,a)
theorem oW {ts:List Tok} {K sub:Nat->Pr Ty} {x:Ty} {b i:Nat} (h:i<Tr.length) (z:∀ j (_:j<Tr.length),j<i->Zg ts b Tr[j]=false) (A:Zg ts b Tr[i]=true):E6 ts K sub x b=(sub (b+1)).go fun y c => .inl (Zp 14 Tr[i] 0 (Yj ts b) (Yi ts b) [] [] [x,y],c):=by
 have:Tr.find? (Zg ts b)=some Tr[i]:=by
  rw [List.find?_eq_some_iff_getElem];refine⟨A,i,h,rfl,fun j C=>?_⟩;rw [z j (by omega) C];rfl
 unfold E6
 rw [this]
theorem mP {ts:List Tok} {b:Nat} (h:∀ j (_:j<Tr.length),Zg ts b Tr[j]=false):Tr.find? (Zg ts b)=none:=by
 rw [List.find?_eq_none]
 intro t z
 obtain⟨j,A,rfl⟩:=List.mem_iff_getElem.1 z
 rw [h j A]
 simp
theorem rcmp_c (pb tb cap d:Nat) (ts:List Tok) (ok:Ym ts) (K sub:Nat->Pr Ty)
  (hK:∀ S w,Z2 w pb tb cap ts d S->Calls prog 73 #[qP pb] w (N0 pb tb cap ts d w (Zi K S)))
  (hP:∀ S w,Z2 w pb tb cap ts d S->Calls prog 98 #[qP pb,iP 3] w (V0 pb tb cap ts d w (Zi sub S)))
  (S:Yd) (w:wD) (h:Z2 w pb tb cap ts d S) :
  Calls prog 111 #[qP pb] w (V0 pb tb cap ts d w (Zi (Hx ts K sub) S)):=by
 have HK:=Za hK
 have HP:=Za hP
 have OK:=Za ok
 have X0:=Za (Hb h Zj.obj)
 obtain⟨R,hR⟩:=xE (Zi (Hx ts K sub) S)
 obtain⟨R1,I⟩:=xE (Zi sub S)
 have HR:xQ (R=R1.go (E6 ts K sub)):=by
  rw [hR,I]
  cases S <;> rfl
 have U0:=Za (HP.o S _ X0.o.at_)
 rw [<- I] at U0
 rw [<- hR]
 clear hR I hK hP ok h
 go_enter func111,ntmps111
 go_wp2_with fail
 refine U0.o.mono ?_
 rintro e w1 ⟨H,J,A,rfl,hv⟩
 have X1:=Za ((X0.o.step H J).alloc A.obj)
 rw [xS] at hv
 have HV:=Za hv
 have Xq:=H.size
 rw [xS] at Xq
 clear H J hv X0 U0
 go_wp2_with fail
 have HF1:xQ (∀ c,c<w1.heap.size->(w1.alloc A.obj).heap[c]?=w1.heap[c]?):=fun c hc=>xA hc
 have Y5:xQ (w1.heap.size<(w1.alloc A.obj).heap.size):=by show _<_; rw [xS]; omega
 obtain⟨nb,Vc⟩:=xE w1.heap.size
 rw [<- Vc] at X1 Xq HF1 Y5 ⊢
 have Ba:=Za Vc
 clear Vc
 generalize w1.alloc (.cells #[iP A.k,.string A.tx,iP A.N,iP A.li,iP A.co,.slice A.ta A.tl A.tc,.slice A.na A.nl A.nc,.slice A.ka A.kl A.kc] 64)=W1 at X1 HF1 Y5 ⊢
 refine(zR pb tb cap d ts (Zf R1) 14 _ X1.o.at_).mono ?_
 rintro e w2 ⟨li,co,rfl,Bl,H,J⟩
 have hp:=X1.o.hp
 have X2:=Za (((X1.o.step H J).alloc (Yf 14 li co).obj).alloc (Vb Tr))
 rw [xS] at X2
 have N9:=Za Bl
 have Wj:=H.size
 have Hj:xQ (∀ c,w.heap.size+1<=c->c<nb->((w2.alloc (Yf 14 li co).obj).alloc (Vb Tr)).heap[c]?=w1.heap[c]?):=fun c C F=>(xA (by rw [xS]; have:=Y5.o; omega)).trans ((xA (by have:=Y5.o; omega)).trans ((H.keep c (by omega) (by have:=Y5.o; omega)).trans (HF1.o c F)))
 clear H J Bl X1 HF1
 go_wp2_with fail
 obtain⟨mb,Bm⟩:=xE w2.heap.size
 rw [<- Bm] at X2 Wj ⊢
 clear Bm
 obtain⟨W2,Qo⟩:=xE ((w2.alloc (.cells #[iP 14,sP,iP 0,iP li,iP co,nP,nP,nP] 64)).alloc (.cells #[.string ⟨#[60]⟩,.string ⟨#[60,61]⟩,.string ⟨#[61,61]⟩] 9))
 rw [<- Qo]
 have X2':xQ (RX pb tb cap ts w W2 d (Zf R1) [(mb+1,Vb Tr),(mb,(Yf 14 li co).obj),(nb,A.obj),(w.heap.size,Zj.obj)]):=by rw [Qo]; exact X2.o
 have HF2':xQ (∀ c,w.heap.size+1<=c->c<nb->W2.heap[c]?=w1.heap[c]?):=by rw [Qo]; exact Hj.o
 clear Qo X2 Hj
 have Mj:nb<mb:=by have:=Y5.o; omega
 go_loopw [6] (fun v wr=>∃ i:Nat,v=iP i/\i<=3/\xQ (RX pb tb cap ts w wr d (Zf R1) [(mb+1,Vb Tr),(mb,(Yf 14 li co).obj),(nb,A.obj),(w.heap.size,Zj.obj)])/\xQ (∀ j (_:j<Tr.length),j<i->Y2 ts (Zf R1) Tr[j]=false)/\xQ (∀ c,w.heap.size+1<=c->c<nb->wr.heap[c]?=w1.heap[c]?)) (fun v _=>3 - (intOf v).toNat)
 case atStart=>exact⟨0,rfl,by omega,X2',(fun _ _ h=>absurd h (Nat.not_lt_zero _)),HF2'⟩
 case round =>
  clear X2' HF2';obtain⟨i,rfl,hi,X,HN,HF⟩:=hrel;by_cases Zt:i<3
  ·have Um:(i:Int)<3:=by omega
   have hiL:i<Tr.length:=Zt;have c1:=tB (X.o.box (p:=(mb+1,Vb Tr)) (by simp)) hiL;obtain⟨s,Sy⟩:=xE (Tr[i]);rw [<- Sy] at c1;have HSL:=Za Sy;have hlm:=xB (X.o.box (p:=(mb+1,Vb Tr)) (by simp));clear Sy;go_wp2_with fail;refine(Vi pb tb cap d ts (Zf R1) s _ X.o.at_ OK.o).mono ?_;rintro e w3 ⟨rfl,H,J⟩;have X3:=Za (X.o.step H J)
   have Li:xQ (∀ c,w.heap.size+1<=c->c<nb->w3.heap[c]?=w1.heap[c]?):=fun c C F=>(H.keep c (by omega) (by omega)).trans (HF.o c C F)
   clear H J X HF c1
   cases hs:Y2 ts (Zf R1) s with
   | false =>
    rw [hs,if_neg (by simp)] at X3
    have Vr:xQ (∀ j (_:j<Tr.length),j<i+1->Y2 ts (Zf R1) Tr[j]=false):=fun j C F=>by
     by_cases e:j=i
     ·subst e; rw [<- HSL.o]; exact hs
     ·exact HN.o j C (by omega)
    clear hs HN;go_wp2_with fail;exact⟨⟨i+1,by go_num,by omega,X3,Vr,Li⟩,by simp [intOf]; omega⟩
   | true =>
    rw [hs,if_pos rfl] at X3
    obtain⟨x,b,I⟩:∃ x b,R1 = .inl (x,b):=by
     cases R1 with
     | inr p=>cases hs
     | inl q=>exact⟨q.1,q.2,rfl⟩
    have Yy:xQ (R=(sub (b+1)).go fun y c => .inl (Zp 14 s 0 (Yj ts b) (Yi ts b) [] [] [x,y],c)):=by
     rw [HR.o,I]
     have hn:∀ j (_:j<Tr.length),j<i->Zg ts b Tr[j]=false:=fun j C F=>by
      have:=HN.o j C F;rw [I] at this;exact this
     have hse:Zg ts b Tr[i]=true:=by
      rw [I] at hs;rw [<- HSL.o];exact hs
     rw [HSL.o];exact oW hiL hn hse
    obtain⟨hl,hc⟩:=N9.o b (by rw [I]; rfl);have Xp:=Za (And.intro hl hc);have HVx:=Za (HV.o x b I);have HC:=Za (HP.o _ _ X3.o.at_)
    have e4:Zi sub (Nr (Zf R1))=sub (b+1):=by rw [I]; rfl
    rw [e4] at HC;clear hs hl hc e4 N9 HN I HR HV;go_wp2_with fail;refine HC.o.mono ?_;rintro e w4 ⟨H,J,z,rfl,hv⟩;have X4:=Za (X3.o.step H J)
    have M9:xQ (∀ c,w.heap.size+1<=c->c<nb->w4.heap[c]?=w1.heap[c]?):=fun c C F=>(H.keep c (by omega) (by have:=xB (X3.o.box (p:=(mb,(Yf 14 li co).obj)) (by simp)); omega)).trans (Li.o c C F)
    have HZ4:xQ (Wl (mb+2) w4 z (sub (b+1))):=hv.lower (xB (X3.o.box (p:=(mb+1,Vb Tr)) (by simp)));clear H J hv HC X3 Li;obtain⟨⟨n0,n1,n2,n3,n4,n5,n6,n7⟩,_,yY⟩:=Zn (X4.o.box (p:=(nb,A.obj)) (by simp));obtain⟨⟨m0,m1,m2,m3,m4,m5,m6,m7⟩,⟨g0,g1,g2,g3,g4,g5,g6,g7⟩,Rx⟩:=Zn (X4.o.box (p:=(mb,(Yf 14 li co).obj)) (by simp));obtain⟨⟨r0,r1,r2,r3,r4,r5,r6,r7⟩,⟨f0,f1,f2,f3,f4,f5,f6,f7⟩,hr4⟩:=Zn (X4.o.box (p:=(w.heap.size,Zj.obj)) (by simp))
    have c2:=tB (X4.o.box (p:=(mb+1,Vb Tr)) (by simp)) hiL;rw [<- HSL.o] at c2;have hlg:=xB (X4.o.box (p:=(mb+1,Vb Tr)) (by simp))
    have Ub:¬ mb=nb:=by omega
    have Up:¬ nb=mb:=by omega
    have Sv:¬ mb+1=mb:=by omega
    have Ry:¬ mb=w.heap.size:=by omega
    have A4:¬ nb=w.heap.size:=by omega
    have Ir:¬ w.heap.size=mb:=by omega
    go_wp2_with fail;obtain⟨Wf,Z⟩:=xE ((((((((((((w4.setCell (aP mb 1) (uP s)).setCell (aP mb 7) (lP (w4.heap.size+1) 2 2)).setCell (aP w.heap.size 0) (iP 14)).setCell (aP w.heap.size 1) (uP s)).setCell (aP w.heap.size 2) (iP 0)).setCell (aP w.heap.size 3) (iP li)).setCell (aP w.heap.size 4) (iP co)).setCell (aP w.heap.size 5) nP).setCell (aP w.heap.size 6) nP).setCell (aP w.heap.size 7) (lP (w4.heap.size+1) 2 2)).alloc (.cells #[iP z.k,.string z.tx,iP z.N,iP z.li,iP z.co,.slice z.ta z.tl z.tc,.slice z.na z.nl z.nc,.slice z.ka z.kl z.kc] 64)).alloc (.cells #[iP A.k,.string A.tx,iP A.N,iP A.li,iP A.co,.slice A.ta A.tl A.tc,.slice A.na A.nl A.nc,.slice A.ka A.kl A.kc,iP z.k,.string z.tx,iP z.N,iP z.li,iP z.co,.slice z.ta z.tl z.tc,.slice z.na z.nl z.nc,.slice z.ka z.kl z.kc] 64))
    rw [<- Z]
    have Tv:(put8 ((w4.setCell (aP mb 1) (uP s)).setCell (aP mb 7) (lP (w4.heap.size+1) 2 2)) w.heap.size ⟨14,⟨s.toArray⟩,0,li,co,none,0,0,none,0,0,some (aP (w4.heap.size+1) 0),2,2⟩).heap.size=w4.heap.size:=by rw [Nt,Yg,Yg]
    have Zw:xQ (RX pb tb cap ts w Wf d (Zf (sub (b+1))) [(w.heap.size,NV.obj ⟨14,⟨s.toArray⟩,0,li,co,none,0,0,none,0,0,some (aP (w4.heap.size+1) 0),2,2⟩)]):=by
     have C:=(X4.o.perm (bx':=[(w.heap.size,Zj.obj)]) (by simp))
     have F:=((C.far (c:=mb) (by omega) (by simp; omega) 1 (uP s)).far (c:=mb) (by omega) (by simp; omega) 7 (lP (w4.heap.size+1) 2 2))
     rw [Z];exact(((F.put8 (by simp) ⟨14,⟨s.toArray⟩,0,li,co,none,0,0,none,0,0,some (aP (w4.heap.size+1) 0),2,2⟩).alloc z.obj).drop.alloc (Bv A z)).drop
    have Xd:∀ c,c≠w.heap.size->c≠mb->c<w4.heap.size->Wf.heap[c]?=w4.heap[c]?:=fun c C F h3=>by
     rw [Z];exact(xA (by rw [xS,Tv]; omega)).trans ((xA (by rw [Tv]; exact h3)).trans ((N7 (x:=⟨14,⟨s.toArray⟩,0,li,co,none,0,0,none,0,0,some (aP (w4.heap.size+1) 0),2,2⟩) C).trans ((xH F).trans (xH F))))
    have Yu:Wf.heap[w4.heap.size+1]?=some (Bv A z):=by
     have:=Bg (put8 ((w4.setCell (aP mb 1) (uP s)).setCell (aP mb 7) (lP (w4.heap.size+1) 2 2)) w.heap.size ⟨14,⟨s.toArray⟩,0,li,co,none,0,0,none,0,0,some (aP (w4.heap.size+1) 0),2,2⟩) z.obj (Bv A z);rw [Tv] at this;rw [Z];exact this
    have Tm:w4.heap.size+2=Wf.heap.size:=by rw [Z,xS,xS]; simp only [Yg]
    clear Z;refine r64 rfl rfl (Zw.o.box (p:=(w.heap.size,NV.obj ⟨14,⟨s.toArray⟩,0,li,co,none,0,0,none,0,0,some (aP (w4.heap.size+1) 0),2,2⟩)) (by simp)) rfl ⟨Zw.o.st,?_,⟨14,⟨s.toArray⟩,0,li,co,none,0,0,none,0,0,some (aP (w4.heap.size+1) 0),2,2⟩,rfl,fun D c e=>?_⟩
    ·have:=Zw.o.at_
     rw [Yy.o]
     cases Wx:sub (b+1)with
     | inr q=>rw [Wx] at this; exact this
     | inl q=>rw [Wx] at this; exact this
    ·rw [Yy.o] at e
     cases Wx:sub (b+1)with
     | inr q=>rw [Wx] at e; cases e
     | inl q =>
      obtain⟨D2,b2⟩:=q;rw [Wx] at e;injection e with e;injection e with e _;rw [<- e]
      have hx:Y0 (w.heap.size+1) Wf A x:=HVx.o.keep (by have:=Ba.o; omega) fun c h6 h7=>(Xd c (by omega) (by have:=Ba.o; omega) (by have:=Ba.o; omega)).trans (M9.o c h6 (by have:=Ba.o; omega))
      have hz:Y0 (w.heap.size+1) Wf z D2:=((HZ4.o D2 b2 Wx).keep (by omega) fun c h6 h7=>Xd c (by omega) (by omega) h7).lower (by omega);have:=Dv (kb:=w4.heap.size+1) hx hz Yu (by omega) ⟨14,⟨s.toArray⟩,0,li,co,none,0,0,none,0,0,some (aP (w4.heap.size+1) 0),2,2⟩ [] [] ⟨rfl,rfl⟩ ⟨rfl,xZ _,0,.inl rfl⟩ ⟨rfl,xZ _,.inl rfl⟩;rw [<- Xp.o.1,<- Xp.o.2];exact this.lower (Nat.le_succ _)
  ·have Um:¬ (i:Int)<3:=by omega
   have HNn:xQ (∀ j (_:j<Tr.length),Y2 ts (Zf R1) Tr[j]=false):=fun j C=>HN.o j C (by have:Tr.length=3:=rfl; omega)
   obtain⟨⟨n0,n1,n2,n3,n4,n5,n6,n7⟩,_,yY⟩:=Zn (X.o.box (p:=(nb,A.obj)) (by simp));obtain⟨⟨m0,m1,m2,m3,m4,m5,m6,m7⟩,⟨g0,g1,g2,g3,g4,g5,g6,g7⟩,Rx⟩:=Zn (X.o.box (p:=(mb,(Yf 14 li co).obj)) (by simp))
   have Up:¬ nb=mb:=by omega
   clear HN;have Gg:=X.o.st.size;have hkbl:nb<wr.heap.size:=yY;go_wp2_with fail;obtain⟨W5,hW5⟩:=xE ((wr.setCell (aP mb 7) (lP wr.heap.size 1 1)).alloc (.cells #[iP A.k,.string A.tx,iP A.N,iP A.li,iP A.co,.slice A.ta A.tl A.tc,.slice A.na A.nl A.nc,.slice A.ka A.kl A.kc] 64));rw [<- hW5];obtain⟨kb,Vt⟩:=xE wr.heap.size
   have X5:xQ (RX pb tb cap ts w W5 d (Zf R1) [(mb,NV.obj ⟨14,⟨#[]⟩,0,li,co,none,0,0,none,0,0,some (aP kb 0),1,1⟩),(nb,A.obj),(w.heap.size,Zj.obj),(kb,A.obj)]):=by
    have C:=(X.o.perm (bx':=[(mb,(Yf 14 li co).obj),(nb,A.obj),(w.heap.size,Zj.obj)]) (by simp)).setB (by simp; omega) 7 (lP wr.heap.size 1 1);have F:=C.alloc A.obj;rw [Yg] at F;rw [hW5,Vt];exact F.perm (by simp)
   have HF5:xQ (∀ c,w.heap.size+1<=c->c<nb->W5.heap[c]?=w1.heap[c]?):=fun c C F=>by
    rw [hW5];exact(xA (by rw [Yg]; omega)).trans ((xH (by show c≠mb; omega)).trans (HF.o c C F))
   rw [<- Vt]
   have hmk:mb<kb:=by omega
   have hnk:nb<kb:=by omega
   clear hW5 Vt X HF n0 n1 n2 n3 n4 n5 n6 n7 m0 m1 m2 m3 m4 m5 m6 m7 g0 g1 g2 g3 g4 g5 g6 g7 yY Rx Gg hkbl;refine(Vi pb tb cap d ts (Zf R1) [97,115] _ X5.o.at_ OK.o).mono ?_;rintro e w6 ⟨rfl,H,J⟩;have X6:=Za (X5.o.step H J)
   have Bz:xQ (∀ c,w.heap.size+1<=c->c<nb->w6.heap[c]?=w1.heap[c]?):=fun c C F=>(H.keep c (by omega) (by have:=xB (X5.o.box (p:=(nb,A.obj)) (by simp)); omega)).trans (HF5.o c C F)
   clear H J X5 HF5
   cases hs:Y2 ts (Zf R1) [97,115] with
   | true =>
    rw [hs,if_pos rfl] at X6
    obtain⟨x,b,I⟩:∃ x b,R1 = .inl (x,b):=by
     cases R1 with
     | inr p=>cases hs
     | inl q=>exact⟨q.1,q.2,rfl⟩
    have Yy:xQ (R=(K (b+1)).go fun t c => .inl (Zp 13 [] 0 (Yj ts b) (Yi ts b) [t] [] [x],c)):=by
     rw [HR.o,I];rw [I] at hs;show E6 ts K sub x b=_;unfold E6;rw [mP fun j C=>by have:=HNn.o j C; rw [I] at this; exact this];exact if_pos hs
    obtain⟨hl,hc⟩:=N9.o b (by rw [I]; rfl);have Xp:=Za (And.intro hl hc);have HVx:=Za (HV.o x b I)
    have e4:Zi K (Nr (Zf R1))=K (b+1):=by rw [I]; rfl
    have HKc:xQ (∀ w,Z2 w pb tb cap ts d (Nr (Zf R1))->Calls prog 73 #[qP pb] w (N0 pb tb cap ts d w (K (b+1)))):=fun w h=>by rw [<- e4]; exact HK.o _ w h
    clear hs hl hc e4 N9 HNn I HR HV;obtain⟨⟨m0,m1,m2,m3,m4,m5,m6,m7⟩,⟨g0,g1,g2,g3,g4,g5,g6,g7⟩,hml6⟩:=Zn (X6.o.box (p:=(mb,NV.obj ⟨14,⟨#[]⟩,0,li,co,none,0,0,none,0,0,some (aP kb 0),1,1⟩)) (by simp));have X7:xQ (RX pb tb cap ts w (w6.setCell (aP mb 0) (iP 13)) d (Nr (Zf R1)) [(mb,NV.obj ⟨13,⟨#[]⟩,0,li,co,none,0,0,none,0,0,some (aP kb 0),1,1⟩),(nb,A.obj),(w.heap.size,Zj.obj),(kb,A.obj)]):=X6.o.setB (by simp; omega) 0 (iP 13)
    go_wp2_with fail;refine(HKc.o _ X7.o.at_).mono ?_;rintro e M ⟨H,J,k1,O,Y,V,nc1,ka1,kl1,T,rfl,hv⟩;have X8:=Za (X7.o.step H J);have h68:=H.size;rw [Yg] at h68
    have D6:xQ (∀ c,w.heap.size+1<=c->c<nb->M.heap[c]?=w1.heap[c]?):=fun c C F=>(H.keep c (by omega) (by rw [Yg]; omega)).trans ((xH (by show c≠mb; omega)).trans (Bz.o c C F))
    have Hs:xQ (K3 (kb+1) M (.agg #[iP k1,.string O,.slice Y V nc1,.slice ka1 kl1 T]) (K (b+1))):=hv.lower (by have:=xB (X7.o.box (p:=(kb,A.obj)) (by simp)); exact this);clear H J hv X6 X7 Bz m0 m1 m2 m3 m4 m5 m6 m7 g0 g1 g2 g3 g4 g5 g6 g7;obtain⟨⟨m0,m1,m2,m3,m4,m5,m6,m7⟩,⟨g0,g1,g2,g3,g4,g5,g6,g7⟩,hml8⟩:=Zn (X8.o.box (p:=(mb,NV.obj ⟨13,⟨#[]⟩,0,li,co,none,0,0,none,0,0,some (aP kb 0),1,1⟩)) (by simp))
    obtain⟨⟨r0,r1,r2,r3,r4,r5,r6,r7⟩,⟨f0,f1,f2,f3,f4,f5,f6,f7⟩,hr8⟩:=Zn (X8.o.box (p:=(w.heap.size,Zj.obj)) (by simp))
    have Ry:¬ mb=w.heap.size:=by omega
    have Ir:¬ w.heap.size=mb:=by omega
    go_wp2_with fail;obtain⟨Wf,Z⟩:=xE (((((((((((M.setCell (aP mb 5) (lP (M.heap.size+1) 1 1)).setCell (aP w.heap.size 0) (iP 13)).setCell (aP w.heap.size 1) sP).setCell (aP w.heap.size 2) (iP 0)).setCell (aP w.heap.size 3) (iP li)).setCell (aP w.heap.size 4) (iP co)).setCell (aP w.heap.size 5) (lP (M.heap.size+1) 1 1)).setCell (aP w.heap.size 6) nP).setCell (aP w.heap.size 7) (lP kb 1 1)).alloc (.cells #[iP k1,.string O,.slice Y V nc1,.slice ka1 kl1 T] 94)).alloc (.cells #[iP k1,.string O,.slice Y V nc1,.slice ka1 kl1 T] 94))
    rw [<- Z]
    have Tv:(put8 (M.setCell (aP mb 5) (lP (M.heap.size+1) 1 1)) w.heap.size ⟨13,⟨#[]⟩,0,li,co,some (aP (M.heap.size+1) 0),1,1,none,0,0,some (aP kb 0),1,1⟩).heap.size=M.heap.size:=by rw [Nt,Yg]
    have Zw:xQ (RX pb tb cap ts w Wf d (Zf (K (b+1))) [(w.heap.size,NV.obj ⟨13,⟨#[]⟩,0,li,co,some (aP (M.heap.size+1) 0),1,1,none,0,0,some (aP kb 0),1,1⟩),(kb,A.obj)]):=by
     have C:=(X8.o.perm (bx':=[(w.heap.size,Zj.obj),(kb,A.obj)]) (by simp))
     have F:=(C.far (c:=mb) (by omega) (by simp; omega) 5 (lP (M.heap.size+1) 1 1))
     rw [Z];exact(((F.put8 (by simp; omega) ⟨13,⟨#[]⟩,0,li,co,some (aP (M.heap.size+1) 0),1,1,none,0,0,some (aP kb 0),1,1⟩).alloc (Z7 k1 O Y V nc1 ka1 kl1 T)).drop.alloc (Z7 k1 O Y V nc1 ka1 kl1 T)).drop
    have Xd:∀ c,c≠w.heap.size->c≠mb->c<M.heap.size->Wf.heap[c]?=M.heap[c]?:=fun c C F h3=>by
     rw [Z];exact(xA (by rw [xS,Tv]; omega)).trans ((xA (by rw [Tv]; exact h3)).trans ((N7 (x:=⟨13,⟨#[]⟩,0,li,co,some (aP (M.heap.size+1) 0),1,1,none,0,0,some (aP kb 0),1,1⟩) C).trans (xH F)))
    have Yu:Wf.heap[M.heap.size+1]?=some (Z7 k1 O Y V nc1 ka1 kl1 T):=by
     have:=Bg (put8 (M.setCell (aP mb 5) (lP (M.heap.size+1) 1 1)) w.heap.size ⟨13,⟨#[]⟩,0,li,co,some (aP (M.heap.size+1) 0),1,1,none,0,0,some (aP kb 0),1,1⟩) (Z7 k1 O Y V nc1 ka1 kl1 T) (Z7 k1 O Y V nc1 ka1 kl1 T);rw [Tv] at this;rw [Z];exact this
    have Tm:M.heap.size+2=Wf.heap.size:=by rw [Z,xS,xS]; simp only [Yg]
    clear Z;refine r64 rfl rfl (Zw.o.box (p:=(w.heap.size,NV.obj ⟨13,⟨#[]⟩,0,li,co,some (aP (M.heap.size+1) 0),1,1,none,0,0,some (aP kb 0),1,1⟩)) (by simp)) rfl ⟨Zw.o.st,?_,⟨13,⟨#[]⟩,0,li,co,some (aP (M.heap.size+1) 0),1,1,none,0,0,some (aP kb 0),1,1⟩,rfl,fun D c e=>?_⟩
    ·have:=Zw.o.at_
     rw [Yy.o]
     cases Wx:K (b+1)with
     | inr q=>rw [Wx] at this; exact this
     | inl q=>rw [Wx] at this; exact this
    ·rw [Yy.o] at e
     cases Wx:K (b+1)with
     | inr q=>rw [Wx] at e; cases e
     | inl q =>
      obtain⟨t,b2⟩:=q;rw [Wx] at e;injection e with e;injection e with e _;rw [<- e]
      have hx:Y0 (w.heap.size+1) Wf A x:=HVx.o.keep (by have:=Ba.o; omega) fun c h6 h7=>(Xd c (by omega) (by have:=Ba.o; omega) (by have:=Ba.o; omega)).trans (D6.o c h6 (by have:=Ba.o; omega))
      have ht:Yk (w.heap.size+1) Wf (.agg #[iP k1,.string O,.slice Y V nc1,.slice ka1 kl1 T]) t:=((Hs.o t b2 Wx).keep (by omega) fun c h6 h7=>Xd c (by omega) (by omega) h7).lower (by omega);have:=Ko (kb:=kb) hx (Zw.o.box (p:=(kb,A.obj)) (by simp)) (by omega) ⟨13,⟨#[]⟩,0,li,co,some (aP (M.heap.size+1) 0),1,1,none,0,0,some (aP kb 0),1,1⟩ [t] [] ⟨rfl,rfl⟩ ⟨rfl,by simp,kids1 ht Yu (by omega)⟩ ⟨rfl,xZ _,.inl rfl⟩
      rw [<- Xp.o.1,<- Xp.o.2];exact this.lower (Nat.le_succ _)
   | false =>
    rw [hs,if_neg (by simp)] at X6;have HAs:=Za hs;clear hs;go_wp2_with fail;refine(Vi pb tb cap d ts (Zf R1) [105,115] _ X6.o.at_ OK.o).mono ?_;rintro e w7 ⟨rfl,H,J⟩;have X7:=Za (X6.o.step H J)
    have HF7:xQ (∀ c,w.heap.size+1<=c->c<nb->w7.heap[c]?=w1.heap[c]?):=fun c C F=>(H.keep c (by omega) (by have:=xB (X6.o.box (p:=(nb,A.obj)) (by simp)); omega)).trans (Bz.o c C F)
    clear H J X6 Bz
    cases hs:Y2 ts (Zf R1) [105,115] with
    | false =>
     rw [hs,if_neg (by simp)] at X7
     have Yy:xQ (R=R1):=by
      rw [HR.o]
      cases I:R1 with
      | inr p=>rfl
      | inl q =>
       obtain⟨x,b⟩:=q;show E6 ts K sub x b=_;have C:=HAs.o;rw [I] at hs C;unfold E6;rw [mP fun j C=>by have:=HNn.o j C; rw [I] at this; exact this];have F:Zg ts b [97,115]=false:=C;have h3:Zg ts b [105,115]=false:=hs;simp [F,h3]
     clear hs HAs;obtain⟨⟨n0,n1,n2,n3,n4,n5,n6,n7⟩,_,hnl7⟩:=Zn (X7.o.box (p:=(nb,A.obj)) (by simp));obtain⟨⟨r0,r1,r2,r3,r4,r5,r6,r7⟩,⟨f0,f1,f2,f3,f4,f5,f6,f7⟩,hr7⟩:=Zn (X7.o.box (p:=(w.heap.size,Zj.obj)) (by simp))
     have A4:¬ nb=w.heap.size:=by omega
     go_wp2_with fail;have XF:=RX.put8 (X7.o.perm (bx':=[(w.heap.size,Zj.obj)]) (by simp)) (by simp) A;rw [Yy.o];refine r64 rfl rfl (XF.box (p:=(w.heap.size,A.obj)) (by simp)) rfl ⟨XF.st,XF.at_,A,rfl,fun D c e=>?_⟩;refine Y0.lower (Y0.put8 ((HV.o D c e).keep (by have:=Ba.o; omega) fun c h6 h7=>HF7.o c h6 (by have:=Ba.o; omega)) (xU _) A) (Nat.le_succ _)
    | true =>
     rw [hs,if_pos rfl] at X7
     obtain⟨x,b,I⟩:∃ x b,R1 = .inl (x,b):=by
      cases R1 with
      | inr p=>cases hs
      | inl q=>exact⟨q.1,q.2,rfl⟩
     have Yy:xQ (R=match Qj.findIdx? (Zg ts (b+1))with
       | some i => .inl (Zp 12 [] i (Yj ts b) (Yi ts b) [] [] [x],b+2)
       | none=>Vj ts 7 (b+1)):=by
      rw [HR.o,I];have C:=HAs.o;rw [I] at hs C;show E6 ts K sub x b=_;unfold E6;rw [mP fun j C=>by have:=HNn.o j C; rw [I] at this; exact this];have F:Zg ts b [97,115]=false:=C;have h3:Zg ts b [105,115]=true:=hs;simp only [F,h3];rfl
     obtain⟨hl,hc⟩:=N9.o b (by rw [I]; rfl);have Xp:=Za (And.intro hl hc);have HVx:=Za (HV.o x b I)
     have e4:Nr (Zf R1) = .inl (b+1):=by rw [I]; rfl
     rw [e4] at X7;clear hs hl hc e4 N9 HNn I HR HV HAs;obtain⟨⟨m0,m1,m2,m3,m4,m5,m6,m7⟩,⟨g0,g1,g2,g3,g4,g5,g6,g7⟩,hml7⟩:=Zn (X7.o.box (p:=(mb,NV.obj ⟨14,⟨#[]⟩,0,li,co,none,0,0,none,0,0,some (aP kb 0),1,1⟩)) (by simp));have hk7:=xB (X7.o.box (p:=(kb,A.obj)) (by simp));have hn7:=xB (X7.o.box (p:=(nb,A.obj)) (by simp));go_wp2_with fail;obtain⟨W8,hW8⟩:=xE ((w7.setCell (aP mb 0) (iP 12)).alloc (.cells #[.string ⟨#[110,117,108,108]⟩,.string ⟨#[98,111,111,108]⟩,.string ⟨#[105,110,116]⟩,.string ⟨#[115,116,114]⟩,.string ⟨#[114,101,99,111,114,100]⟩,.string ⟨#[102,117,110,99,116,105,111,110]⟩] 9))
     rw [<- hW8];obtain⟨gb,hgb⟩:=xE w7.heap.size;rw [<- hgb]
     have X8:xQ (RX pb tb cap ts w W8 d (.inl (b+1)) [(mb,NV.obj ⟨12,⟨#[]⟩,0,li,co,none,0,0,none,0,0,some (aP kb 0),1,1⟩),(w.heap.size,Zj.obj),(kb,A.obj),(gb,Vb Qj)]):=by
      have C:=(X7.o.perm (bx':=[(mb,NV.obj ⟨14,⟨#[]⟩,0,li,co,none,0,0,none,0,0,some (aP kb 0),1,1⟩),(w.heap.size,Zj.obj),(kb,A.obj)]) (by simp)).setB (by simp; omega) 0 (iP 12);have F:=C.alloc (Vb Qj);rw [Yg] at F;rw [hW8,hgb];exact F.perm (by simp)
     have D6:xQ (∀ c,w.heap.size+1<=c->c<nb->W8.heap[c]?=w1.heap[c]?):=fun c C F=>by
      rw [hW8];exact(xA (by rw [Yg]; omega)).trans ((xH (by show c≠mb; omega)).trans (HF7.o c C F))
     have Pw:kb<gb:=by omega
     clear hW8 hgb X7 HF7 m0 m1 m2 m3 m4 m5 m6 m7 g0 g1 g2 g3 g4 g5 g6 g7 hml7;obtain⟨wq,hwq⟩:=xE wr;subst hwq
     go_loopw [10] (fun v wr=>∃ i:Nat,v=iP i/\i<=6/\xQ (RX pb tb cap ts w wr d (.inl (b+1)) [(mb,NV.obj ⟨12,⟨#[]⟩,0,li,co,none,0,0,none,0,0,some (aP kb 0),1,1⟩),(w.heap.size,Zj.obj),(kb,A.obj),(gb,Vb Qj)])/\xQ (∀ j (_:j<Qj.length),j<i->Zg ts (b+1) Qj[j]=false)/\xQ (∀ c,w.heap.size+1<=c->c<nb->wr.heap[c]?=w1.heap[c]?)) (fun v _=>6 - (intOf v).toNat)
     case atStart=>exact⟨0,rfl,by omega,X8,(fun _ _ h=>absurd h (Nat.not_lt_zero _)),D6⟩
     case round =>
      clear X8 D6;obtain⟨i2,rfl,Pg,X,HN,HF⟩:=hrel
      have hnw:nb<wr.heap.size:=by have:=xB (X.o.box (p:=(kb,A.obj)) (by simp)); omega
      by_cases Zt:i2<6
      ·have hil2:(i2:Int)<6:=by omega
       have hiL:i2<Qj.length:=Zt;have c1:=tB (X.o.box (p:=(gb,Vb Qj)) (by simp)) hiL;obtain⟨s,Sy⟩:=xE (Qj[i2]);rw [<- Sy] at c1;have HSL:=Za Sy;have hlm:=xB (X.o.box (p:=(gb,Vb Qj)) (by simp));clear Sy;go_wp2_with fail;refine(Vi pb tb cap d ts (.inl (b+1)) s _ X.o.at_ OK.o).mono ?_;rintro e w9 ⟨rfl,H,J⟩;have X9:=Za (X.o.step H J)
       have HF9:xQ (∀ c,w.heap.size+1<=c->c<nb->w9.heap[c]?=w1.heap[c]?):=fun c C F=>(H.keep c (by omega) (by omega)).trans (HF.o c C F)
       have hs9:=H.size;clear H J X HF c1
       cases hs:Y2 ts (.inl (b+1)) s with
       | false =>
        rw [hs,if_neg (by simp)] at X9
        have Vr:xQ (∀ j (_:j<Qj.length),j<i2+1->Zg ts (b+1) Qj[j]=false):=fun j C F=>by
         by_cases e:j=i2
         ·subst e; rw [<- HSL.o]; exact hs
         ·exact HN.o j C (by omega)
        clear hs HN;go_wp2_with fail;exact⟨⟨i2+1,by go_num,by omega,X9,Vr,HF9⟩,by simp [intOf]; omega⟩
       | true =>
        rw [hs,if_pos rfl] at X9
        have Kv:xQ (R = .inl (Zp 12 [] i2 (Yj ts b) (Yi ts b) [] [] [x],b+2)):=by
         rw [Yy.o]
         have:Qj.findIdx? (Zg ts (b+1))=some i2:=by
          rw [List.findIdx?_eq_some_iff_getElem];refine⟨hiL,by rw [<- HSL.o]; exact hs,fun j hj=>?_⟩;rw [HN.o j (by omega) hj];simp
         rw [this];exact rfl
        clear hs HN Yy;obtain⟨⟨m0,m1,m2,m3,m4,m5,m6,m7⟩,⟨g0,g1,g2,g3,g4,g5,g6,g7⟩,hml9⟩:=Zn (X9.o.box (p:=(mb,NV.obj ⟨12,⟨#[]⟩,0,li,co,none,0,0,none,0,0,some (aP kb 0),1,1⟩)) (by simp));obtain⟨⟨r0,r1,r2,r3,r4,r5,r6,r7⟩,⟨f0,f1,f2,f3,f4,f5,f6,f7⟩,hr9⟩:=Zn (X9.o.box (p:=(w.heap.size,Zj.obj)) (by simp))
        have Ry:¬ mb=w.heap.size:=by omega
        have Ir:¬ w.heap.size=mb:=by omega
        go_wp2_with fail;obtain⟨Wf,Z⟩:=xE (((((((((w9.setCell (aP mb 2) (iP i2)).setCell (aP w.heap.size 0) (iP 12)).setCell (aP w.heap.size 1) sP).setCell (aP w.heap.size 2) (iP i2)).setCell (aP w.heap.size 3) (iP li)).setCell (aP w.heap.size 4) (iP co)).setCell (aP w.heap.size 5) nP).setCell (aP w.heap.size 6) nP).setCell (aP w.heap.size 7) (lP kb 1 1));rw [<- Z]
        have Zw:xQ (RX pb tb cap ts w Wf d (Nr (.inl (b+1))) [(w.heap.size,NV.obj ⟨12,⟨#[]⟩,(i2:Int),li,co,none,0,0,none,0,0,some (aP kb 0),1,1⟩),(kb,A.obj)]):=by
         have C:=(X9.o.perm (bx':=[(w.heap.size,Zj.obj),(kb,A.obj)]) (by simp))
         have F:=(C.far (c:=mb) (by omega) (by simp; omega) 2 (iP i2))
         rw [Z];exact F.put8 (by simp; omega) ⟨12,⟨#[]⟩,(i2:Int),li,co,none,0,0,none,0,0,some (aP kb 0),1,1⟩
        have Xd:∀ c,c≠w.heap.size->c≠mb->Wf.heap[c]?=w9.heap[c]?:=fun c C F=>by
         rw [Z];exact(N7 (x:=⟨12,⟨#[]⟩,(i2:Int),li,co,none,0,0,none,0,0,some (aP kb 0),1,1⟩) C).trans (xH F)
        have Tm:w9.heap.size=Wf.heap.size:=by rw [Z]; simp only [Yg]
        clear Z;refine r64 rfl rfl (Zw.o.box (p:=(w.heap.size,NV.obj ⟨12,⟨#[]⟩,(i2:Int),li,co,none,0,0,none,0,0,some (aP kb 0),1,1⟩)) (by simp)) rfl ⟨Zw.o.st,?_,⟨12,⟨#[]⟩,(i2:Int),li,co,none,0,0,none,0,0,some (aP kb 0),1,1⟩,rfl,fun D c e=>?_⟩
        ·rw [Kv.o]
         exact Zw.o.at_
        ·rw [Kv.o] at e
         injection e with e;injection e with e _
         have hx:Y0 (w.heap.size+1) Wf A x:=HVx.o.keep (by have:=Ba.o; omega) fun c h6 h7=>(Xd c (by omega) (by have:=Ba.o; omega)).trans (HF9.o c h6 (by have:=Ba.o; omega))
         have:=(Ko (kb:=kb) hx (Zw.o.box (p:=(kb,A.obj)) (by simp)) (by omega) ⟨12,⟨#[]⟩,(i2:Int),li,co,none,0,0,none,0,0,some (aP kb 0),1,1⟩ [] [] ⟨rfl,rfl⟩ ⟨rfl,xZ _,0,.inl rfl⟩ ⟨rfl,xZ _,.inl rfl⟩).lower (Nat.le_succ _);rw [<- e,<- Xp.o.1,<- Xp.o.2];exact this
      ·have hil2:¬ (i2:Int)<6:=by omega
       have Kv:xQ (R=Vj ts 7 (b+1)):=by
        rw [Yy.o]
        have:Qj.findIdx? (Zg ts (b+1))=none:=by
         rw [List.findIdx?_eq_none_iff];intro t ht;obtain⟨j,hj,rfl⟩:=List.mem_iff_getElem.1 ht;exact HN.o j hj (by have:Qj.length=6:=rfl; omega)
        rw [this];exact rfl
       clear HN Yy;go_wp2_with fail;refine(wH pb tb cap d ts (.inl (b+1)) 7 (by decide) _ X.o.at_).mono ?_;rintro e w9 ⟨rfl,H,J⟩;have X9:=Za (X.o.step H J);clear H J X HF;obtain⟨⟨m0,m1,m2,m3,m4,m5,m6,m7⟩,⟨g0,g1,g2,g3,g4,g5,g6,g7⟩,hml9⟩:=Zn (X9.o.box (p:=(mb,NV.obj ⟨12,⟨#[]⟩,0,li,co,none,0,0,none,0,0,some (aP kb 0),1,1⟩)) (by simp));obtain⟨⟨r0,r1,r2,r3,r4,r5,r6,r7⟩,⟨f0,f1,f2,f3,f4,f5,f6,f7⟩,hr9⟩:=Zn (X9.o.box (p:=(w.heap.size,Zj.obj)) (by simp))
       have Ry:¬ mb=w.heap.size:=by omega
       go_wp2_with fail;have XF:=RX.put8 (X9.o.perm (bx':=[(w.heap.size,Zj.obj)]) (by simp)) (by simp) ⟨12,⟨#[]⟩,0,li,co,none,0,0,none,0,0,some (aP kb 0),1,1⟩;refine r64 rfl rfl (XF.box (p:=(w.heap.size,NV.obj ⟨12,⟨#[]⟩,0,li,co,none,0,0,none,0,0,some (aP kb 0),1,1⟩)) (by simp)) rfl ⟨XF.st,?_,⟨12,⟨#[]⟩,0,li,co,none,0,0,none,0,0,some (aP kb 0),1,1⟩,rfl,fun D c e=>?_⟩
       ·rw [Kv.o]
        exact XF.at_
       ·rw [Kv.o] at e
        cases e
def HeadP (lo:Nat) (w':wD) (R:Pr (bS×List Ty)) (e:Ending):Prop :=
 ∃ (nm:bS) (v:vL) (cs:List (List vL)) (acc:List (Option Ty)),e = .returned (.tuple #[uP nm,v])/\Yq Qm lo 94 4 none w' v cs acc/\1<=acc.length/\acc.length<=2/\∀ h b,R = .inl (h,b)->nm=h.1/\acc=h.2.map some
theorem zbg (ts:List Tok) (K:Nat->Pr Ty) (S:Yd):∃ (R1:Pr Unit) (R2:Pr (bS)) (z:Pr (List Ty)) (C:Pr Unit) (A:Pr (List Ty)),
  R1=Zi (fun a=>Ze ts a [40]) S/\R2=Zi (Zu ts) (Zf R1)/\z=Zi (Vp ts K) (Zf R2)/\C=Zi (fun a=>Ze ts a [41]) (Zf z)/\A=Zi (Vp ts K) (Zf C) /\
  Zf (Zi (B8 ts K) S)=Zf A/\∀ h b,Zi (B8 ts K) S = .inl (h,b)->∃ b2 x b3 y,R2 = .inl (h.1,b2)/\z = .inl (x,b3)/\A = .inl (y,b)/\h.2=(if x.isEmpty then [Y7 0 [] [] []] else x) ++ y:=by
 refine⟨_,_,_,_,_,rfl,rfl,rfl,rfl,rfl,?_⟩
 cases S with
 | inr p=>exact⟨rfl,fun h b e=>by cases e⟩
 | inl a =>
  show Zf (B8 ts K a)=Zf (Zi (Vp ts K) (Zf (Zi _ (Zf (Zi _ (Zf (Zi (Zu ts) (Zf (Ze ts a [40])))))))) )/\∀ h b,B8 ts K a = .inl (h,b)->_;unfold B8;show _/\∀ h b,_->∃ b2 x b3 y,Zi (Zu ts) (Zf (Ze ts a [40]))=_/\Zi (Vp ts K) (Zf (Zi (Zu ts) (Zf (Ze ts a [40]))))=_/\Zi (Vp ts K) (Zf (Zi (fun a=>Ze ts a [41]) (Zf (Zi (Vp ts K) (Zf (Zi (Zu ts) (Zf (Ze ts a [40]))))))))=_/\_
  cases h1:Ze ts a [40] with
  | inr p=>exact⟨rfl,fun h b e=>by cases e⟩
  | inl q1 =>
   obtain⟨u1,b1⟩:=q1;show Zf ((Zu ts b1).go _)=Zf (Zi _ (Zf (Zi _ (Zf (Zi _ (Zf (Zu ts b1))))))) /\∀ h b,(Zu ts b1).go _ = .inl (h,b)->∃ b2 x b3 y,Zu ts b1=_/\Zi (Vp ts K) (Zf (Zu ts b1))=_/\Zi (Vp ts K) (Zf (Zi (fun a=>Ze ts a [41]) (Zf (Zi (Vp ts K) (Zf (Zu ts b1))))))=_/\_
   cases h2:Zu ts b1 with
   | inr p=>exact⟨rfl,fun h b e=>by cases e⟩
   | inl q2 =>
    obtain⟨s,b2⟩:=q2;show Zf ((Vp ts K b2).go _)=Zf (Zi _ (Zf (Zi _ (Zf (Vp ts K b2))))) /\∀ h b,(Vp ts K b2).go _ = .inl (h,b)->∃ b2' x b3 y,(.inl (s,b2):Pr (bS))=_/\Vp ts K b2=_/\Zi (Vp ts K) (Zf (Zi (fun a=>Ze ts a [41]) (Zf (Vp ts K b2))))=_/\_
    cases h3:Vp ts K b2 with
    | inr p=>exact⟨rfl,fun h b e=>by cases e⟩
    | inl q3 =>
     obtain⟨x,b3⟩:=q3;show Zf ((Ze ts b3 [41]).go _)=Zf (Zi _ (Zf (Ze ts b3 [41]))) /\∀ h b,(Ze ts b3 [41]).go _ = .inl (h,b)->∃ b2' x' b3' y,(.inl (s,b2):Pr (bS))=_/\(.inl (x,b3):Pr (List Ty))=_/\Zi (Vp ts K) (Zf (Ze ts b3 [41]))=_/\_
     cases h4:Ze ts b3 [41] with
     | inr p=>exact⟨rfl,fun h b e=>by cases e⟩
     | inl q4 =>
      obtain⟨u4,b4⟩:=q4;show Zf ((Vp ts K b4).go _)=Zf (Vp ts K b4) /\∀ h b,(Vp ts K b4).go _ = .inl (h,b)->∃ b2' x' b3' y,(.inl (s,b2):Pr (bS))=_/\(.inl (x,b3):Pr (List Ty))=_/\Vp ts K b4=_/\_
      cases h5:Vp ts K b4 with
      | inr p=>exact⟨rfl,fun h b e=>by cases e⟩
      | inl q5 =>
       obtain⟨y,b5⟩:=q5;refine⟨rfl,fun h b e=>?_⟩;have j:(Sum.inl ((s,(if x.isEmpty then [Y7 0 [] [] []] else x) ++ y),b5):Pr (bS×List Ty)) = .inl (h,b):=e;injection j with j;injection j with j e2;subst j e2;exact⟨b2,x,b3,y,rfl,rfl,rfl,rfl⟩
theorem eL (w:wD):Qm w.heap.size w [iP 0,sP,nP,nP] (some (Y7 0 [] [] [])) :=
 ⟨⟨0,⟨#[]⟩,none,0,0,none,0,0,rfl⟩,fun t e=>by
  injection e with e;rw [<- e]
  exact bR (m:=0) (ks:=[]) (by decide) (.inl rfl) (by simp) (by simp)⟩
theorem aJ {α:Type} {rep:Nat->wD->List vL->α->Prop} {B et k g cap:Nat} {o:Option Nat} {w:wD} {c:List vL} {x:α} (h:Yq rep B et k o w (lP g 1 cap) [c] [x]) {j:Nat} {u:vL} (z:c[j]?=some u):w.cell? ((aP g 0).add j)=some u:=by
 have hc:=h.each c (by simp)
 have hl:j<c.length:=by
  rw [List.getElem?_eq_some_iff] at z;exact z.1
 have:=h.ow.cellAt j (by simp; omega)
 have e:(aP g 0).add j=(aP g j):=by unfold Addr.add; split <;> simp_all
 rw [e,this]
 simpa using z
theorem Yq.lowerB {α:Type} {rep:Nat->wD->List vL->α->Prop} {B B' et k:Nat} {o:Option Nat} {w:wD} {v:vL} {cs:List (List vL)} {xs:List α} (h:Yq rep B et k o w v cs xs) (A:B'<=B):Yq rep B' et k o w v cs xs:=by
 refine⟨h.len,h.each,?_,h.apart,fun q C=>⟨Nat.le_trans A (h.olt q C).1,(h.olt q C).2⟩,fun i F V=>?_⟩
 ·obtain⟨I,j⟩:=h.ow
  refine⟨I,?_⟩;rcases j with j | ⟨g,cap,z,e,J,r⟩
  ·exact .inl j
  ·exact .inr ⟨g,cap,z,e,Nat.le_trans A J,r⟩
 ·obtain⟨O,lo,Y,H,M,T,N⟩:=h.made i F V
  exact⟨O,lo,Y,Nat.le_trans A H,M,T,N⟩
theorem Z2.grown {w w4:wD} {pb tb cap d:Nat} {ts:List Tok} {S:Yd} {g:Option Nat} (h:Z2 w pb tb cap ts d S) (z:w.grownBy w4 g) (j:∀ k,g=some k->pb<k):Z2 w4 pb tb cap ts d S:=by
 obtain⟨a,ha⟩:=h
 exact⟨a,(z.block _ ha.ltp (fun e=>by have:=j _ e.symm; omega)).trans ha.blk,ha.lt,ha.live,ha.bad,ha.tlt,Lf ha.toks (z.block _ (Nat.lt_trans ha.tlt ha.ltp) (fun e=>by have:=j _ e.symm; have:=ha.tlt; omega))⟩
theorem s6 (pb tb cap d:Nat) (ts:List Tok) (ok:Ym ts) (K:Nat->Pr Ty)
  (hK:∀ S w,Z2 w pb tb cap ts d S->Calls prog 73 #[qP pb] w (N0 pb tb cap ts d w (Zi K S)))
  (S:Yd) (w:wD) (h:Z2 w pb tb cap ts d S) :
  Calls prog 60 #[qP pb] w fun e w'=>Zl pb w w'/\Z2 w' pb tb cap ts d (Zf (Zi (B8 ts K) S))/\HeadP w.heap.size w' (Zi (B8 ts K) S) e:=by
 obtain⟨R1,R2,R3,R4,R5,h1,h2,h3,h4,h5,z,N6⟩:=zbg ts K S
 rw [z]
 have HV:=Za N6
 have HK:=Za hK
 have OK:=Za ok
 have U0:=Za (Td pb tb cap d ts S [40] w h ok)
 rw [<- h1] at U0
 have To:=Za (fun wx hx=>Gm pb tb cap d ts (Zf R1) wx hx ok)
 rw [<- h2] at To
 have Nx:=Za (fun wx hx=>bN pb tb cap d ts ok K hK (Zf R2) wx hx)
 rw [<- h3] at Nx
 have Fw:=Za (fun wx hx=>Td pb tb cap d ts (Zf R3) [41] wx hx ok)
 rw [<- h4] at Fw
 have HC5:=Za (fun wx hx=>bN pb tb cap d ts ok K hK (Zf R4) wx hx)
 rw [<- h5] at HC5
 have Ys:=h.ltp
 obtain⟨i0,hi,Xr,Xg,Xw⟩:=info_parts Iy
 clear h1 h2 h3 h4 h5 z N6 h hK ok
 go_enter func60,ntmps60
 go_wp2_with fail
 refine U0.o.mono ?_
 rintro e w1 ⟨rfl,z,A⟩
 have X1:=Za (And.intro z A)
 clear z A
 go_wp2_with fail
 refine(To.o _ X1.o.2).mono ?_
 rintro e w2 ⟨rfl,z,A⟩
 have X2:=Za (And.intro (X1.o.1.trans z) A)
 clear z A
 go_wp2_with fail
 refine(Nx.o _ X2.o.2).mono ?_
 rintro e w3 ⟨z,A,hn⟩
 have X3:=Za (And.intro (X2.o.1.trans z) A)
 have h23:=X2.o.1.size
 clear z A
 rcases hn with⟨rfl,hn⟩ | ⟨g,k1,nm1,na1,nl1,nc1,ka1,kl1,kc1,x1,rfl,hg,hn⟩
 ·have HN:=Za hn
  clear hn;go_wp2_with fail;refine(Fw.o _ X3.o.2).mono ?_;rintro e w4 ⟨rfl,z,A⟩;have X4:=Za (And.intro (X3.o.1.trans z) A);clear z A;go_wp2_with fail;refine(HC5.o _ X4.o.2).mono ?_;rintro e V ⟨z,A,hm⟩;have T:=Za (And.intro (X4.o.1.trans z) A);have h45:=z.size;have h04:=X4.o.1.size;clear z A;have H:=Za (zT (B:=w.heap.size) (et:=94) (k:=4) (rep:=Qm) (wx:=V) (lo:=V.heap.size) (c:=[iP 0,sP,nP,nP]) (x:=some (Y7 0 [] [] [])) (eL V) (by omega) (by omega) rfl)
  rcases hm with⟨rfl,hm⟩ | ⟨g2,k2,I,J,N,M,F,C,O,x2,rfl,Ua,hm⟩
  ·have HM:=Za hm
   clear hm;go_wp2_with fail
   go_ret2
   refine⟨T.o.1.alloc Ys _,T.o.2.alloc _,Vd R2,_,_,_,rfl,H.o,by simp,by simp,fun h b e=>?_⟩;obtain⟨b2,x,b3,y,e2,e3,e5,Z⟩:=HV.o h b e;obtain rfl:=HN.o _ _ e3;obtain rfl:=HM.o _ _ e5;rw [Z,e2];exact⟨rfl,rfl⟩
  ·have HM:=Za hm
   have RB:=Za (Ua.stay ((Zl.refl pb V).alloc (by have:=T.o.1.size; omega) (Z7 0 ⟨#[]⟩ none 0 0 none 0 0)) (by omega))
   have Uh:xQ (∀ j u,([iP k2,.string I,.slice J N M,.slice F C O]:List vL)[j]?=some u->(V.alloc (Z7 0 ⟨#[]⟩ none 0 0 none 0 0)).cell? ((aP g2 0).add j)=some u):=fun j u h=>aJ RB.o h
   have Uj:xQ (Xt Qm w.heap.size (fun q=>(lP V.heap.size 1 1).ownBlock=some q∨(none:Option Nat)=some q) (V.alloc (Z7 0 ⟨#[]⟩ none 0 0 none 0 0)) [iP k2,.string I,.slice J N M,.slice F C O] x2):=by
    obtain⟨wi,lo,m1,m2,m3,m4,_⟩:=Ua.made 0 (by simp) (by simp);refine⟨wi,lo,m1,by omega,by rw [xS]; omega,fun b hb hl=>(xA (by omega)).trans (m4 b hb hl),fun q Y=>?_⟩;rcases Y with Y | Y
    ·simp [Value.ownBlock] at Y
     exact .inr (by omega)
    ·cases Y
   clear hm Ua
   go_wp2_with(at_builtin; refine wpList_append_own_at _ rfl (.tmp 23) (.tmp 24) 61 rfl (w.heap.size) 94 i0 _ 4 72 underlying61 hi Xr Xg Xw rfl (by decide) _ _ _ rfl H.o.ow (aP _ 0) 1 1 [iP k2,.string I,.slice J N M,.slice F C O] rfl rfl Uh.o (by simp [Value.oneCell']) (by unfold maxLen; simp) (by simp) (by simp; omega) ?_)
   intro v' w6 Zr Zo _ Z4;have Pa:=Za (H.o.put Zr Zo (Z4.imp_right fun e=>⟨_,e,by simp⟩) (Zl.refl pb _) Ys rfl Uj.o)
   have Zx:xQ (Zl pb w w6):=(T.o.1.alloc Ys _).grown Zo Ys fun k hk=>by simp [Value.ownBlock] at hk; have:=T.o.1.size; omega
   have D4:xQ (Z2 w6 pb tb cap ts d (Zf R5)):=(T.o.2.alloc _).grown Zo fun k hk=>by simp [Value.ownBlock] at hk; have:=T.o.1.size; omega
   clear Zr Zo Z4;go_wp2_with fail
   go_ret2
   refine⟨Zx.o,D4.o,Vd R2,_,_,_,rfl,Pa.o,by simp,by simp,fun h b e=>?_⟩;obtain⟨b2,x,b3,y,e2,e3,e5,Z⟩:=HV.o h b e;obtain rfl:=HN.o _ _ e3;obtain⟨t,rfl,rfl⟩:=HM.o _ _ e5;rw [Z,e2];exact⟨rfl,rfl⟩
 ·have HN:=Za hn
  have RA3:=Za hg
  have hg3:g<w3.heap.size/\w2.heap.size<=g:=by
   have:=hg.own g rfl;exact⟨this.2,this.1⟩
  clear hn hg;go_wp2_with fail;refine(Fw.o _ X3.o.2).mono ?_;rintro e w4 ⟨rfl,z,A⟩;have X4:=Za (And.intro (X3.o.1.trans z) A);have RA4:=Za (RA3.o.stay z (by omega));have h34:=z.size;clear z A RA3;go_wp2_with fail;refine(HC5.o _ X4.o.2).mono ?_;rintro e V ⟨z,A,hm⟩;have T:=Za (And.intro (X4.o.1.trans z) A);have h45:=z.size;have h04:=X4.o.1.size;have H:xQ (Yq Qm w.heap.size 94 4 none V (lP g 1 1) [[iP k1,.string nm1,.slice na1 nl1 nc1,.slice ka1 kl1 kc1]] [x1]):=(RA4.o.stay z (by omega)).lowerB (by omega)
  clear z A RA4;rcases hm with⟨rfl,hm⟩ | ⟨g2,k2,I,J,N,M,F,C,O,x2,rfl,Ua,hm⟩
  ·have HM:=Za hm
   clear hm;go_wp2_with fail
   go_ret2
   refine⟨T.o.1,T.o.2,Vd R2,_,_,_,rfl,H.o,by simp,by simp,fun h b e=>?_⟩;obtain⟨b2,x,b3,y,e2,e3,e5,Z⟩:=HV.o h b e;obtain⟨t,rfl,rfl⟩:=HN.o _ _ e3;obtain rfl:=HM.o _ _ e5;rw [Z,e2];exact⟨rfl,rfl⟩
  ·have HM:=Za hm
   have Uh:xQ (∀ j u,([iP k2,.string I,.slice J N M,.slice F C O]:List vL)[j]?=some u->V.cell? ((aP g2 0).add j)=some u):=fun j u h=>aJ Ua h
   have Uj:xQ (Xt Qm w.heap.size (fun q=>(lP g 1 1).ownBlock=some q∨(none:Option Nat)=some q) V [iP k2,.string I,.slice J N M,.slice F C O] x2):=by
    obtain⟨wi,lo,m1,m2,m3,m4,_⟩:=Ua.made 0 (by simp) (by simp);refine⟨wi,lo,m1,by omega,m3,m4,fun q Y=>?_⟩;rcases Y with Y | Y
    ·simp [Value.ownBlock] at Y
     exact .inl (by omega)
    ·cases Y
   clear hm Ua
   go_wp2_with(at_builtin; refine wpList_append_own_at _ rfl (.tmp 23) (.tmp 24) 61 rfl (w.heap.size) 94 i0 _ 4 72 underlying61 hi Xr Xg Xw rfl (by decide) _ _ _ rfl H.o.ow (aP _ 0) 1 1 [iP k2,.string I,.slice J N M,.slice F C O] rfl rfl Uh.o (by simp [Value.oneCell']) (by unfold maxLen; simp) (by simp) (by omega) ?_)
   intro v' w6 Zr Zo _ Z4;have Pa:=Za (H.o.put Zr Zo (Z4.imp_right fun e=>⟨_,e,xR⟩) (Zl.refl pb _) Ys rfl Uj.o)
   have Zx:xQ (Zl pb w w6):=T.o.1.grown Zo Ys fun k hk=>by simp [Value.ownBlock] at hk; omega
   have D4:xQ (Z2 w6 pb tb cap ts d (Zf R5)):=T.o.2.grown Zo fun k hk=>by simp [Value.ownBlock] at hk; omega
   clear Zr Zo Z4;go_wp2_with fail
   go_ret2
   refine⟨Zx.o,D4.o,Vd R2,_,_,_,rfl,Pa.o,by simp,by simp,fun h b e=>?_⟩;obtain⟨b2,x,b3,y,e2,e3,e5,Z⟩:=HV.o h b e;obtain⟨t,rfl,rfl⟩:=HN.o _ _ e3;obtain⟨t,rfl,rfl⟩:=HM.o _ _ e5;rw [Z,e2];exact⟨rfl,rfl⟩
def Ke {α β:Type} (ts:List Tok) (one:Nat->Pr α) (g:α->β) (sep:bS) (Rm:Pr (List α)) (S:Yd) (acc:List β) (gk:Nat):Prop :=
 (∃ b l m,S = .inl b/\acc=l.map g/\Rm=((Z9 ts one sep (m+1) b).go fun r c => .inl (l ++ r,c))/\ts.length<=b+m+1/\l.length<=b/\ts.length - b<=gk)∨∃ e,S = .inr e/\Rm = .inr e/\acc.length<=8194
section
variable {α β : Type} {ts : List Tok} {one : Nat -> Pr α} {put : Pr α -> β} {g : α -> β} {sep : bS} {Rm : Pr (List α)} {S : Yd} {acc : List β} {gk : Nat}
theorem Ke.start (f:Nat) (hf:ts.length<=f+1) (h:Rm=Zi (fun a=>Z9 ts one sep (f+1) a) S):Ke ts one g sep Rm S [] ts.length:=by
 cases S with
 | inr p=>exact .inr ⟨p,rfl,h,by simp⟩
 | inl a =>
  refine .inl ⟨a,[],f,rfl,rfl,?_,by omega,by simp,by omega⟩;rw [h];show Z9 ts one sep (f+1) a=_
  cases Z9 ts one sep (f+1) a with
  | inr e=>rfl
  | inl q=>rfl
theorem Ke.len (h:Ke ts one g sep Rm S acc gk) (j:∀ b,S = .inl b->b<8193):acc.length<=8194:=by
 rcases h with⟨b,l,m,e,rfl,_,_,h1,_⟩ | ⟨e,_,_,h⟩
 ·have:=j b e
  rw [List.length_map];omega
 ·exact h
theorem Ke.more (h:Ke ts one g sep Rm S acc gk) (I:∀ x b,put (.inl (x,b))=g x) (j:Y2 ts (Zf (Zi one S)) sep=true) (A:∀ a x b,one a = .inl (x,b)->a<=b) (z:∀ b,Zf (Zi one S) = .inl b->b+1<ts.length):∃ g',g'<gk/\Ke ts one g sep Rm (Nr (Zf (Zi one S))) (acc ++ [put (Zi one S)]) g':=by
 rcases h with⟨b,l,m,rfl,rfl,C,H,h4,h5⟩ | ⟨e,rfl,h2,H⟩
 ·cases ho:one b with
  | inr e =>
   have:Zf (Zi one (.inl b)) = .inr e:=by show Zf (one b)=_; rw [ho]; rfl
   rw [this] at j;cases j
  | inl q =>
   obtain⟨x,c⟩:=q;have J:Zi one (.inl b) = .inl (x,c):=ho;have Dh:=A _ _ _ ho;rw [J] at j z ⊢;have hc:=z c rfl;have F:Zg ts c sep=true:=j;refine⟨ts.length - (c+1),by omega,.inl ⟨c+1,l ++ [x],m - 1,rfl,by simp [I],?_,by omega,by simp; omega,xR⟩⟩
   obtain⟨m,rfl⟩:∃ q,m=q+1:=⟨m - 1,by omega⟩
   rw [C,Z9,ho];show((if Zg ts c sep then _ else _:Pr (List α)).go _)=_;rw [if_pos F,Nat.add_sub_cancel]
   cases Z9 ts one sep (m+1) (c+1)with
   | inr e=>rfl
   | inl q =>
    show(Sum.inl (l ++ (x :: q.1),q.2):Pr (List α)) = .inl (l ++ [x] ++ q.1,q.2);simp
 ·cases j
theorem Ke.end_ (h:Ke ts one g sep Rm S acc gk) (H:∀ x b,put (.inl (x,b))=g x) (A:Y2 ts (Zf (Zi one S)) sep=false):Zf Rm=Zf (Zi one S)/\∀ l b,Rm = .inl (l,b)->acc ++ [put (Zi one S)]=l.map g:=by
 rcases h with⟨b,l,m,rfl,rfl,z,F,h4,h5⟩ | ⟨e,rfl,I,F⟩
 ·cases ho:one b with
  | inr e =>
   have j:Zi one (.inl b) = .inr e:=ho
   have:Rm = .inr e:=by rw [z,Z9,ho]; rfl
   rw [j,this];exact⟨rfl,fun l b e=>by cases e⟩
  | inl q =>
   obtain⟨x,c⟩:=q;have j:Zi one (.inl b) = .inl (x,c):=ho;rw [j] at A ⊢;have C:Zg ts c sep=false:=A
   have:Rm = .inl (l ++ [x],c):=by
    rw [z,Z9,ho];show((if Zg ts c sep then _ else _:Pr (List α)).go _)=_;rw [C];rfl
   rw [this];refine⟨rfl,fun l' b' e=>?_⟩;injection e with e;injection e with e _;rw [<- e];simp [H]
 ·rw [I]
  exact⟨rfl,fun l b e=>by cases e⟩
end
def TysP (lo:Nat) (w':wD) (R:Pr (List Ty)) (e:Ending):Prop :=
 ∃ (av:oA) (cv:Nat) (cs:List (List vL)) (acc:List (Option Ty)),e = .returned (.slice av acc.length cv)/\Yq Qm lo 94 4 none w' (.slice av acc.length cv) cs acc/\acc.length<=8195/\∀ l b,R = .inl (l,b)->acc=l.map some
theorem zhv (pb tb cap d:Nat) (ts:List Tok) (ok:Ym ts) (K:Nat->Pr Ty) (hu:∀ a x b,K a = .inl (x,b)->a<=b) (f:Nat) (hf:ts.length<=f+1)
  (hK:∀ S w,Z2 w pb tb cap ts d S->Calls prog 73 #[qP pb] w (N0 pb tb cap ts d w (Zi K S)))
  (S:Yd) (w:wD) (h:Z2 w pb tb cap ts d S) :
  Calls prog 133 #[qP pb] w fun e w'=>Zl pb w w'/\Z2 w' pb tb cap ts d (Zf (Zi (fun a=>(Z9 ts K [44] (f+1) a).go fun l b=>(Ze ts b [93]).go fun _ b => .inl (l,b)) S))/\TysP w.heap.size w' (Zi (fun a=>(Z9 ts K [44] (f+1) a).go fun l b=>(Ze ts b [93]).go fun _ b => .inl (l,b)) S) e:=by
 obtain⟨Rm,M5⟩:=xE (Zi (fun a=>Z9 ts K [44] (f+1) a) S)
 obtain⟨R,hR⟩:=xE (Zi (fun a=>(Z9 ts K [44] (f+1) a).go fun l b=>(Ze ts b [93]).go fun _ b => .inl (l,b)) S)
 rw [<- hR]
 have HR:xQ (R=Rm.go fun l b=>(Ze ts b [93]).go fun _ b => .inl (l,b)):=by
  rw [hR,M5]
  cases S <;> rfl
 have P7:xQ (Ke ts K some [44] Rm S [] ts.length):=Ke.start f hf M5
 have HK:=Za hK
 have HU:=Za hu
 have OK:=Za ok
 have Y:=h.ltp
 have Pq:xQ (RX pb tb cap ts w w d S []):=⟨Zl.refl _ _,h,Y,by simp⟩
 obtain⟨i0,hi,Xr,Xg,Xw⟩:=info_parts Iy
 clear h hK hu ok hR M5
 go_enter func133,ntmps133
 go_wp2_with fail
 go_loopg [3] (ts.length) (fun gk v wr=>∃ (S:Yd) (cs:List (List vL)) (acc:List (Option Ty)),xQ (RX pb tb cap ts w wr d S [])/\xQ (Yq Qm w.heap.size 94 4 none wr v cs acc)/\xQ (Ke ts K some [44] Rm S acc gk))
 case atStart=>exact⟨S,[],[],Pq,Ha Qm w.heap.size 94 4 w,P7⟩
 case round =>
  clear Pq P7;obtain⟨S',cs,acc,X,RT,HI⟩:=hrel
  have Lw:acc.length<=8194:=HI.o.len fun b e=>by
   obtain⟨a,ha⟩:=X.o.at_;have:=ha.live b e;have:=ha.lt;have:=OK.o.len;omega
  obtain⟨av,cv,rfl⟩:=Yt RT.o.ow;have HC:=Za (HK.o _ _ X.o.at_);obtain⟨R2,Tg⟩:=xE (Zi K S');rw [<- Tg] at HC;have Zy:=Za Tg;clear Tg;go_wp2_with fail;refine HC.o.mono ?_;rintro e w3 ⟨M,V,N,C,F,I,H,A,z,J,rfl,hv⟩;have S7:=X.o.st.size;have X3:=Za (((X.o.step M V).alloc (.cells #[iP N,.string C,.slice F I H,.slice A z J] 94)).drop);have Fj:=M.size
  have O:=Za (RT.o.stay (M.trans ((Zl.refl pb w3).alloc (xT X.o.at_.ltp M.size) (.cells #[iP N,.string C,.slice F I H,.slice A z J] 94))) Y);have Uj:=Za ((Xt.new (rep:=Qm) (B:=w.heap.size) (wR hv) S7 fun q Z=>RT.o.all q Z).stay ((Zl.refl pb w3).alloc (xT X.o.at_.ltp M.size) (.cells #[iP N,.string C,.slice F I H,.slice A z J] 94)) Y)
  have Uh:xQ (∀ j u,([iP N,.string C,.slice F I H,.slice A z J]:List vL)[j]?=some u->((w3.alloc (.cells #[iP N,.string C,.slice F I H,.slice A z J] 94)).alloc (.cells #[iP N,.string C,.slice F I H,.slice A z J] 94)).cell? (((aP (w3.heap.size+1) 0):Addr).add j)=some u):=fun j u h=>by
   have:=V2 (w3.alloc (.cells #[iP N,.string C,.slice F I H,.slice A z J] 94)) [iP N,.string C,.slice F I H,.slice A z J] 94 j u h;rw [xS] at this;exact this
  clear M V hv HC X RT
  go_wp2_with(at_builtin; refine wpList_append_own_at _ rfl (.tmp 8) (.tmp 10) 61 rfl (w.heap.size) 94 i0 _ 4 72 underlying61 hi Xr Xg Xw rfl (by decide) _ _ _ rfl (O.o.ow.alloc _) (aP _ 0) 1 1 [iP N,.string C,.slice F I H,.slice A z J] rfl rfl Uh.o (by simp [Value.oneCell']) (by unfold maxLen; omega) (by omega) (by simp; omega) ?_)
  intro v' w4 Zr Zo _ Z4
  have Xn:xQ (Yq Qm w.heap.size 94 4 none w4 v' (cs ++ [[iP N,.string C,.slice F I H,.slice A z J]]) (acc ++ [Vy R2])) :=
   O.o.put Zr Zo (Z4.imp_right fun e=>⟨_,e,by simp⟩) ((Zl.refl pb _).alloc X3.o.at_.ltp _) Y rfl (Uj.o.stay ((Zl.refl pb _).alloc X3.o.at_.ltp _) Y)
  have Nz:xQ (RX pb tb cap ts w w4 d (Zf R2) []):=by
   have hX:=(X3.o.alloc (.cells #[iP N,.string C,.slice F I H,.slice A z J] 94)).drop
   have Zt:∀ q,(Value.slice av acc.length cv).ownBlock=some q->w.heap.size<=q:=fun q Z=>(O.o.own q Z).1
   exact⟨hX.st.grown Zo hX.hp fun q Z=>Zt q Z,hX.at_.grown Zo fun q Z=>by have:=Zt q Z; omega,hX.hp,by simp⟩
  clear Zr Zo Z4 O X3 Uj Uh;go_wp2_with fail;refine(Vi pb tb cap d ts (Zf R2) [44] _ Nz.o.at_ OK.o).mono ?_;rintro e w5 ⟨rfl,M,V⟩;have X5:=Za (Nz.o.step M V);have R5:=Za (Xn.o.stay M Y)
  have Df:∀ b,Zf R2 = .inl b->b<ts.length:=fun b e=>by
   obtain⟨a,ha⟩:=Nz.o.at_;have:=ha.live b e;have:=ha.lt;omega
  have Xa:=Za Df;clear M V Nz Xn Df
  cases hs:Y2 ts (Zf R2) [44] with
  | true =>
   rw [hs,if_pos rfl] at X5
   obtain⟨g',Qp,hn⟩:=HI.o.more (put:=Vy) (fun _ _=>rfl) (by rw [<- Zy.o]; exact hs) HU.o (fun b e=>by
    rw [<- Zy.o] at e;rw [e] at hs
    exact Xx OK.o.ends (Xa.o b e) hs)
   rw [<- Zy.o] at hn;have HN:=Za hn;clear hs hn HI;go_wp2_with fail
   go_roundg g'
   case measure=>exact Qp
   case rel=>exact⟨_,_,_,X5,R5,HN⟩
  | false =>
   rw [hs,if_neg (by simp)] at X5;have Ly:=HI.o.end_ (put:=Vy) (fun _ _=>rfl) (by rw [<- Zy.o]; exact hs);rw [<- Zy.o] at Ly;have P6:=Za Ly;clear hs Ly HI
   have hlv:(acc ++ [Vy R2]).length=acc.length+1:=by simp
   obtain⟨av5,cv5,hv5⟩:=Yt R5.o.ow;subst hv5;go_wp2_with fail;refine(Td pb tb cap d ts (Zf R2) [93] _ X5.o.at_ OK.o).mono ?_;rintro e w6 ⟨rfl,M,V⟩;have X6:=Za (X5.o.step M V);have R6:=Za (R5.o.stay M Y);clear M V X5 R5;go_wp2_with fail;go_ret;refine⟨X6.o.st,?_,av5,cv5,_,acc ++ [Vy R2],by rw [hlv]; rfl,R6.o,by omega,fun l b e=>?_⟩
   ·have:=X6.o.at_
    rw [HR.o];rw [<- P6.o.1] at this
    cases hm:Rm with
    | inr q=>rw [hm] at this; exact this
    | inl q =>
     rw [hm] at this;have h2:Z2 w6 pb tb cap ts d (Zf (Ze ts q.2 [93])):=this;show Z2 w6 pb tb cap ts d (Zf ((Ze ts q.2 [93]).go fun _ b => .inl (q.1,b)))
     cases hw:Ze ts q.2 [93] with
     | inr p=>rw [hw] at h2; exact h2
     | inl p=>rw [hw] at h2; exact h2
   ·rw [HR.o] at e
    cases hm:Rm with
    | inr q=>rw [hm] at e; cases e
    | inl q =>
     obtain⟨l',b'⟩:=q;rw [hm] at e;have T:(Ze ts b' [93]).go (fun _ b=>(.inl (l',b):Pr (List Ty))) = .inl (l,b):=e
     cases hw:Ze ts b' [93] with
     | inr p=>rw [hw] at T; cases T
     | inl p =>
      rw [hw] at T;injection T with T;injection T with T _;rw [<- T];exact P6.o.2 l' b' hm
end
namespace Lx
theorem Cl (b:UInt8) (w:wD):Calls prog 43 #[.int .u8 b.toNat] w fun e w'=>e = .returned (.bool (Tw b))/\w'=w:=by
 have z:(b.toNat<65)∨(65<=b.toNat/\b.toNat<=90)∨(90<b.toNat/\b.toNat<95)∨b.toNat=95∨b.toNat=96∨(97<=b.toNat/\b.toNat<=122)∨122<b.toNat:=by omega
 unfold Tw
 generalize b.toNat=n at z ⊢
 rcases z with h | ⟨j,A⟩ | ⟨j,A⟩ | rfl | rfl | ⟨j,A⟩ | h
 ·have e:((n:Int) == 95)=false:=by simp; omega
  go_enter func43,ntmps43;go_wp2;go_ret;exact⟨Dy (by first | rfl | (simp; done) | (simp; omega) | (rw [Bool.eq_iff_iff]; simp; omega)),rfl⟩
 ·go_enter func43,ntmps43
  go_wp2;go_ret;exact⟨Dy (by first | rfl | (simp; done) | (simp; omega) | (rw [Bool.eq_iff_iff]; simp; omega)),rfl⟩
 ·have e:((n:Int) == 95)=false:=by simp; omega
  go_enter func43,ntmps43;go_wp2;go_ret;exact⟨Dy (by first | rfl | (simp; done) | (simp; omega) | (rw [Bool.eq_iff_iff]; simp; omega)),rfl⟩
 ·go_enter func43,ntmps43
  go_wp2;go_ret;exact⟨rfl,rfl⟩
 ·go_enter func43,ntmps43
  go_wp2;go_ret;exact⟨rfl,rfl⟩
 ·go_enter func43,ntmps43
  go_wp2;go_ret;exact⟨Dy (by first | rfl | (simp; done) | (simp; omega) | (rw [Bool.eq_iff_iff]; simp; omega)),rfl⟩
 ·have e:((n:Int) == 95)=false:=by simp; omega
  go_enter func43,ntmps43;go_wp2;go_ret;exact⟨Dy (by first | rfl | (simp; done) | (simp; omega) | (rw [Bool.eq_iff_iff]; simp; omega)),rfl⟩
theorem Rq (b:UInt8) (w:wD):Calls prog 42 #[.int .u8 b.toNat] w fun e w'=>e = .returned (.bool (Xh b))/\w'=w:=by
 have j:(b.toNat<48)∨(48<=b.toNat/\b.toNat<=57)∨57<b.toNat:=by omega
 unfold Xh
 generalize b.toNat=n at j ⊢
 rcases j with h | ⟨h1,h2⟩ | h
 all_goals
  go_enter func42,ntmps42;go_wp2;go_ret;exact⟨Dy (by first | rfl | (simp; done) | (simp; omega) | (rw [Bool.eq_iff_iff]; simp; omega)),rfl⟩
theorem Zz {w w1 w2:wD} (h:Below w.heap.size w w1) (k:Below w1.heap.size w1 w2):Below w.heap.size w w2:=h.trans (k.mono h.size)
theorem Zq (w:wD) (o:Obj):Below w.heap.size w (w.alloc o):=(Below.refl _ w).alloc (xR) o
def N2 (li co e:Int):Obj := .cells #[iP 0,iP li,iP co,iP e] 47
end Lx
end Go.Proofs.YtoppemkjhhlegaaGreatDoor
