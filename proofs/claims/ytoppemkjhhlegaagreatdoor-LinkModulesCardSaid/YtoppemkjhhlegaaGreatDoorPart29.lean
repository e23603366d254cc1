/- Part. -/
import Derived.Test.YtoppemkjhhlegaaGreatDoorPart28
set_option maxRecDepth 100000
set_option maxHeartbeats 4000000
namespace Go.Proofs.YtoppemkjhhlegaaGreatDoor
open Go.Proofs.Tryz
open Go.RowKit
section
attribute [local go_sem ↓] Go.wp_at_zero Go.wp_at_succ
def unT (ts:List Tok) (U P:Nat->Pr Ty) (a:Nat):Pr Ty :=
 if Zg ts a [45] then(U (a+1)).go fun x b => .inl (Zp 16 [] 0 (Yj ts a) (Yi ts a) [] [] [x],b)
 else if Zg ts a [110,111,116] then(U (a+1)).go fun x b => .inl (Zp 15 [] 0 (Yj ts a) (Yi ts a) [] [] [x],b)
 else P a
theorem zhy (pb tb cap d:Nat) (ts:List Tok) (ok:Ym ts) (U P:Nat->Pr Ty) (hd:d<=1000)
  (hU:d<100->∀ S w,Z2 w pb tb cap ts (d+1) S->Calls prog 110 #[qP pb] w (V0 pb tb cap ts (d+1) w (Zi U S)))
  (hP:d<100->∀ S w,Z2 w pb tb cap ts (d+1) S->Calls prog 120 #[qP pb] w (V0 pb tb cap ts (d+1) w (Zi P S)))
  (S:Yd) (w:wD) (h:Z2 w pb tb cap ts d S) :
  Calls prog 110 #[qP pb] w (V0 pb tb cap ts d w (Zi (fun a=>if 100<=d then Vj ts 6 a else unT ts U P a) S)):=by
 obtain⟨R,hR⟩:∃ R:Pr Ty,R=Zi (fun a=>if 100<=d then Vj ts 6 a else unT ts U P a) S:=⟨_,rfl⟩
 rw [<- hR]
 have HR:=Za hR
 have HU:=Za hU
 have HP:=Za hP
 have OK:=Za ok
 have X0:=Za (Hb h Zj.obj)
 have P6:=Za (fun wx hx=>bK pb tb cap d ts S hd wx hx)
 clear h hU hP ok hR
 cases U4:Hz d S with
 | false =>
  have HS:xQ (Zf R=Bd ts d S/\∀ x b,R ≠ .inl (x,b)):=by
   show _/\_;rw [HR.o]
   cases S with
   | inr p =>
    refine⟨?_,fun x b e=>by cases e⟩;show Sum.inr p=Bd ts d (.inr p);unfold Bd
    split <;> rfl
   | inl a =>
    have Nj:100<=d:=by simp [Hz] at U4; exact U4
    refine⟨?_,fun x b e=>?_⟩
    ·show Zf (if 100<=d then _ else _)=Bd ts d (.inl a)
     unfold Bd;rw [if_pos Nj,if_pos Nj];rfl
    ·have:(if 100<=d then(Vj ts 6 a:Pr Ty)else _) = .inl (x,b):=e
     rw [if_pos Nj] at this;cases this
  rw [U4] at P6;clear U4;go_enter func110,ntmps110;go_wp2_with fail;refine(P6.o _ X0.o.at_).mono ?_;rintro e w1 ⟨rfl,j,A⟩;have T:=Za (X0.o.step j A);clear j A;obtain⟨⟨r0,r1,r2,r3,r4,r5,r6,r7⟩,⟨f0,f1,f2,f3,f4,f5,f6,f7⟩,Yw⟩:=Zn (T.o.box (p:=(w.heap.size,Zj.obj)) (by simp));go_wp2_with fail;have XF:=RX.put8 T.o (by simp) Zj;refine r64 rfl rfl (XF.box (p:=(w.heap.size,Zj.obj)) (by simp)) rfl ⟨XF.st,?_,Zj,rfl,fun x b e=>absurd e (HS.o.2 x b)⟩
  rw [HS.o.1];exact XF.at_
 | true =>
  obtain⟨a,rfl⟩:∃ a,S = .inl a:=by cases S with
   | inl a=>exact⟨a,rfl⟩
   | inr p=>cases U4
  have Nj:¬ 100<=d:=by simp [Hz] at U4; omega
  replace HU:=Za (HU.o (by omega));replace HP:=Za (HP.o (by omega))
  have Kc:xQ (R=unT ts U P a):=by rw [HR.o]; exact if_neg Nj
  have e1:Bd ts d (.inl a) = .inl a:=if_neg Nj;rw [U4,e1] at P6;clear U4 e1 HR;go_enter func110,ntmps110;go_wp2_with fail;refine(P6.o _ X0.o.at_).mono ?_;rintro e w1 ⟨rfl,j,A⟩;have T:=Za (X0.o.step j A);clear j A X0;go_wp2_with fail;refine(zR pb tb cap (d+1) ts (.inl a) 16 _ T.o.at_).mono ?_;rintro e w2 ⟨li,co,rfl,Bl,j,A⟩;have X2:=Za ((T.o.step j A).alloc (Yf 16 li co).obj)
  have hp:=T.o.hp;have Wj:=j.size;have hw1:=xB (T.o.box (p:=(w.heap.size,Zj.obj)) (by simp));obtain⟨hl,hc⟩:=Bl a rfl;have Xp:=Za (And.intro hl hc);clear j A Bl T hl hc;go_wp2_with fail;obtain⟨mb,Bm⟩:=xE w2.heap.size;rw [<- Bm] at X2 Wj ⊢;clear Bm;generalize w2.alloc (.cells #[iP 16,sP,iP 0,iP li,iP co,nP,nP,nP] 64)=W2 at X2 ⊢
  have hwm:w.heap.size<mb:=by omega
  refine(Vi pb tb cap (d+1) ts (.inl a) [45] W2 X2.o.at_ OK.o).mono ?_;rintro e w3 ⟨rfl,j,A⟩;have F:=Za (X2.o.step j A);clear j A X2
  cases hs:Y2 ts (.inl a) [45] with
  | true =>
    rw [hs,if_pos rfl] at F
    have V:xQ (R=(U (a+1)).go fun x b => .inl (Zp 16 [] 0 (Yj ts a) (Yi ts a) [] [] [x],b)):=by
     rw [Kc.o];exact if_pos hs
    have HC:=Za (HU.o _ _ F.o.at_);clear hs Kc;go_wp2_with fail;refine HC.o.mono ?_;clear HC;rintro e w4 ⟨j,A,z,rfl,hv⟩;have J:=Za (F.o.step j A);have Y:xQ (Wl (mb+1) w4 z (U (a+1))):=hv.lower (xB (F.o.box (p:=(mb,(Yf 16 li co).obj)) (by simp)));clear j A hv F;obtain⟨⟨m0,m1,m2,m3,m4,m5,m6,m7⟩,⟨g0,g1,g2,g3,g4,g5,g6,g7⟩,Rx⟩:=Zn (J.o.box (p:=(mb,(Yf 16 li co).obj)) (by simp))
    obtain⟨⟨r0,r1,r2,r3,r4,r5,r6,r7⟩,⟨f0,f1,f2,f3,f4,f5,f6,f7⟩,hr4⟩:=Zn (J.o.box (p:=(w.heap.size,Zj.obj)) (by simp));obtain⟨Tj,Ki⟩:=J.o.at_.deep;have Ys:=J.o.at_.ltp
    have Ub:¬ mb=w.heap.size:=by omega
    have Up:¬ pb=mb:=by omega
    have Sv:¬ pb=w.heap.size:=by omega
    have Cf:¬ mb=pb:=by omega
    have Ry:¬ w.heap.size=pb:=by omega
    have A4:¬ w.heap.size=mb:=by omega
    have hdk:((d+1:Nat):Int) - 1=(d:Int):=vR d;go_wp2_with fail;obtain⟨Wf,C⟩:=xE ((((((((((((w4.setCell (aP mb 7) (lP (w4.heap.size+1) 1 1)).setCell (aP pb 2) (iP d)).setCell (aP w.heap.size 0) (iP 16)).setCell (aP w.heap.size 1) sP).setCell (aP w.heap.size 2) (iP 0)).setCell (aP w.heap.size 3) (iP li)).setCell (aP w.heap.size 4) (iP co)).setCell (aP w.heap.size 5) nP).setCell (aP w.heap.size 6) nP).setCell (aP w.heap.size 7) (lP (w4.heap.size+1) 1 1)).alloc (.cells #[iP z.k,.string z.tx,iP z.N,iP z.li,iP z.co,.slice z.ta z.tl z.tc,.slice z.na z.nl z.nc,.slice z.ka z.kl z.kc] 64)).alloc (.cells #[iP z.k,.string z.tx,iP z.N,iP z.li,iP z.co,.slice z.ta z.tl z.tc,.slice z.na z.nl z.nc,.slice z.ka z.kl z.kc] 64))
    rw [<- C]
    have Z:(put8 ((w4.setCell (aP mb 7) (lP (w4.heap.size+1) 1 1)).setCell (aP pb 2) (iP d)) w.heap.size ⟨16,⟨#[]⟩,0,li,co,none,0,0,none,0,0,some (aP (w4.heap.size+1) 0),1,1⟩).heap.size=w4.heap.size:=by rw [Nt,Yg,Yg]
    have H:xQ (RX pb tb cap ts w Wf d (Zf (U (a+1))) [(w.heap.size,NV.obj ⟨16,⟨#[]⟩,0,li,co,none,0,0,none,0,0,some (aP (w4.heap.size+1) 0),1,1⟩)]):=by
     have I:=(J.o.perm (bx':=[(w.heap.size,Zj.obj)]) (by simp))
     have M:=(I.far (c:=mb) (by omega) (by simp; omega) 7 (lP (w4.heap.size+1) 1 1)).deep d;rw [C];exact(((M.put8 (by simp) ⟨16,⟨#[]⟩,0,li,co,none,0,0,none,0,0,some (aP (w4.heap.size+1) 0),1,1⟩).alloc z.obj).drop.alloc z.obj).drop
    have Xd:∀ c,c≠w.heap.size->c≠mb->c≠pb->c<w4.heap.size->Wf.heap[c]?=w4.heap[c]?:=fun c I M h4 h3=>by
     rw [C];exact(xA (by rw [xS,Z]; omega)).trans ((xA (by rw [Z]; exact h3)).trans ((N7 (x:=⟨16,⟨#[]⟩,0,li,co,none,0,0,none,0,0,some (aP (w4.heap.size+1) 0),1,1⟩) I).trans ((xH h4).trans (xH M))))
    have Yu:Wf.heap[w4.heap.size+1]?=some z.obj:=by
     have:=Bg (put8 ((w4.setCell (aP mb 7) (lP (w4.heap.size+1) 1 1)).setCell (aP pb 2) (iP d)) w.heap.size ⟨16,⟨#[]⟩,0,li,co,none,0,0,none,0,0,some (aP (w4.heap.size+1) 0),1,1⟩) z.obj z.obj;rw [Z] at this;rw [C];exact this
    have Tm:w4.heap.size+2=Wf.heap.size:=by rw [C,xS,xS]; simp only [Yg]
    clear C;refine r64 rfl rfl (H.o.box (p:=(w.heap.size,NV.obj ⟨16,⟨#[]⟩,0,li,co,none,0,0,none,0,0,some (aP (w4.heap.size+1) 0),1,1⟩)) (by simp)) rfl ⟨H.o.st,?_,⟨16,⟨#[]⟩,0,li,co,none,0,0,none,0,0,some (aP (w4.heap.size+1) 0),1,1⟩,rfl,fun D c e=>?_⟩
    ·have:=H.o.at_
     rw [V.o]
     cases Wx:U (a+1)with
     | inr q=>rw [Wx] at this; exact this
     | inl q=>rw [Wx] at this; exact this
    ·rw [V.o] at e
     cases Wx:U (a+1)with
     | inr q=>rw [Wx] at e; cases e
     | inl q =>
      obtain⟨D2,b2⟩:=q;rw [Wx] at e;injection e with e;injection e with e _;have hz:Y0 (w.heap.size+1) Wf z D2:=((Y.o D2 b2 Wx).keep (by omega) fun c h6 h7=>Xd c (by omega) (by omega) (by omega) h7).lower (by omega);have:=(Ko (kb:=w4.heap.size+1) hz Yu (by omega) ⟨16,⟨#[]⟩,0,li,co,none,0,0,none,0,0,some (aP (w4.heap.size+1) 0),1,1⟩ [] [] ⟨rfl,rfl⟩ ⟨rfl,xZ _,0,.inl rfl⟩ ⟨rfl,xZ _,.inl rfl⟩).lower (Nat.le_succ _)
      rw [<- e,<- Xp.o.1,<- Xp.o.2];exact this
  | false =>
   rw [hs,if_neg (by simp)] at F
   have Ic:xQ (R=if Zg ts a [110,111,116] then(U (a+1)).go fun x b => .inl (Zp 15 [] 0 (Yj ts a) (Yi ts a) [] [] [x],b)else P a):=by
    rw [Kc.o];exact if_neg (by rw [show Zg ts a [45]=false from hs]; simp)
   clear hs Kc;go_wp2_with fail;refine(Vi pb tb cap (d+1) ts (.inl a) [110,111,116] w3 F.o.at_ OK.o).mono ?_;rintro e w5 ⟨rfl,j,A⟩;have O:=Za (F.o.step j A);clear j A F
   cases hs:Y2 ts (.inl a) [110,111,116] with
   | true =>
    rw [hs,if_pos rfl] at O
    have V:xQ (R=(U (a+1)).go fun x b => .inl (Zp 15 [] 0 (Yj ts a) (Yi ts a) [] [] [x],b)):=by
     rw [Ic.o];exact if_pos hs
    obtain⟨⟨m0,m1,m2,m3,m4,m5,m6,m7⟩,⟨g0,g1,g2,g3,g4,g5,g6,g7⟩,Rx⟩:=Zn (O.o.box (p:=(mb,(Yf 16 li co).obj)) (by simp));have F:xQ (RX pb tb cap ts w (w5.setCell (aP mb 0) (iP 15)) (d+1) (Nr (.inl a)) [(mb,(Yf 15 li co).obj),(w.heap.size,Zj.obj)]):=O.o.setB (by simp; omega) 0 (iP 15);have HC:=Za (HU.o _ _ F.o.at_);clear hs Ic O;go_wp2_with fail;refine HC.o.mono ?_
    clear HC m0 m1 m2 m3 m4 m5 m6 m7 g0 g1 g2 g3 g4 g5 g6 g7 Rx;rintro e w4 ⟨j,A,z,rfl,hv⟩;have J:=Za (F.o.step j A);have Y:xQ (Wl (mb+1) w4 z (U (a+1))):=hv.lower (xB (F.o.box (p:=(mb,(Yf 15 li co).obj)) (by simp)));clear j A hv F;obtain⟨⟨m0,m1,m2,m3,m4,m5,m6,m7⟩,⟨g0,g1,g2,g3,g4,g5,g6,g7⟩,Rx⟩:=Zn (J.o.box (p:=(mb,(Yf 15 li co).obj)) (by simp));obtain⟨⟨r0,r1,r2,r3,r4,r5,r6,r7⟩,⟨f0,f1,f2,f3,f4,f5,f6,f7⟩,hr4⟩:=Zn (J.o.box (p:=(w.heap.size,Zj.obj)) (by simp))
    obtain⟨Tj,Ki⟩:=J.o.at_.deep;have Ys:=J.o.at_.ltp
    have Ub:¬ mb=w.heap.size:=by omega
    have Up:¬ pb=mb:=by omega
    have Sv:¬ pb=w.heap.size:=by omega
    have Cf:¬ mb=pb:=by omega
    have Ry:¬ w.heap.size=pb:=by omega
    have A4:¬ w.heap.size=mb:=by omega
    have hdk:((d+1:Nat):Int) - 1=(d:Int):=vR d;go_wp2_with fail;obtain⟨Wf,C⟩:=xE ((((((((((((w4.setCell (aP mb 7) (lP (w4.heap.size+1) 1 1)).setCell (aP pb 2) (iP d)).setCell (aP w.heap.size 0) (iP 15)).setCell (aP w.heap.size 1) sP).setCell (aP w.heap.size 2) (iP 0)).setCell (aP w.heap.size 3) (iP li)).setCell (aP w.heap.size 4) (iP co)).setCell (aP w.heap.size 5) nP).setCell (aP w.heap.size 6) nP).setCell (aP w.heap.size 7) (lP (w4.heap.size+1) 1 1)).alloc (.cells #[iP z.k,.string z.tx,iP z.N,iP z.li,iP z.co,.slice z.ta z.tl z.tc,.slice z.na z.nl z.nc,.slice z.ka z.kl z.kc] 64)).alloc (.cells #[iP z.k,.string z.tx,iP z.N,iP z.li,iP z.co,.slice z.ta z.tl z.tc,.slice z.na z.nl z.nc,.slice z.ka z.kl z.kc] 64))
    rw [<- C]
    have Z:(put8 ((w4.setCell (aP mb 7) (lP (w4.heap.size+1) 1 1)).setCell (aP pb 2) (iP d)) w.heap.size ⟨15,⟨#[]⟩,0,li,co,none,0,0,none,0,0,some (aP (w4.heap.size+1) 0),1,1⟩).heap.size=w4.heap.size:=by rw [Nt,Yg,Yg]
    have H:xQ (RX pb tb cap ts w Wf d (Zf (U (a+1))) [(w.heap.size,NV.obj ⟨15,⟨#[]⟩,0,li,co,none,0,0,none,0,0,some (aP (w4.heap.size+1) 0),1,1⟩)]):=by
     have I:=(J.o.perm (bx':=[(w.heap.size,Zj.obj)]) (by simp))
     have M:=(I.far (c:=mb) (by omega) (by simp; omega) 7 (lP (w4.heap.size+1) 1 1)).deep d;rw [C];exact(((M.put8 (by simp) ⟨15,⟨#[]⟩,0,li,co,none,0,0,none,0,0,some (aP (w4.heap.size+1) 0),1,1⟩).alloc z.obj).drop.alloc z.obj).drop
    have Xd:∀ c,c≠w.heap.size->c≠mb->c≠pb->c<w4.heap.size->Wf.heap[c]?=w4.heap[c]?:=fun c I M h4 h3=>by
     rw [C];exact(xA (by rw [xS,Z]; omega)).trans ((xA (by rw [Z]; exact h3)).trans ((N7 (x:=⟨15,⟨#[]⟩,0,li,co,none,0,0,none,0,0,some (aP (w4.heap.size+1) 0),1,1⟩) I).trans ((xH h4).trans (xH M))))
    have Yu:Wf.heap[w4.heap.size+1]?=some z.obj:=by
     have:=Bg (put8 ((w4.setCell (aP mb 7) (lP (w4.heap.size+1) 1 1)).setCell (aP pb 2) (iP d)) w.heap.size ⟨15,⟨#[]⟩,0,li,co,none,0,0,none,0,0,some (aP (w4.heap.size+1) 0),1,1⟩) z.obj z.obj;rw [Z] at this;rw [C];exact this
    have Tm:w4.heap.size+2=Wf.heap.size:=by rw [C,xS,xS]; simp only [Yg]
    clear C;refine r64 rfl rfl (H.o.box (p:=(w.heap.size,NV.obj ⟨15,⟨#[]⟩,0,li,co,none,0,0,none,0,0,some (aP (w4.heap.size+1) 0),1,1⟩)) (by simp)) rfl ⟨H.o.st,?_,⟨15,⟨#[]⟩,0,li,co,none,0,0,none,0,0,some (aP (w4.heap.size+1) 0),1,1⟩,rfl,fun D c e=>?_⟩
    ·have:=H.o.at_
     rw [V.o]
     cases Wx:U (a+1)with
     | inr q=>rw [Wx] at this; exact this
     | inl q=>rw [Wx] at this; exact this
    ·rw [V.o] at e
     cases Wx:U (a+1)with
     | inr q=>rw [Wx] at e; cases e
     | inl q =>
      obtain⟨D2,b2⟩:=q;rw [Wx] at e;injection e with e;injection e with e _;have hz:Y0 (w.heap.size+1) Wf z D2:=((Y.o D2 b2 Wx).keep (by omega) fun c h6 h7=>Xd c (by omega) (by omega) (by omega) h7).lower (by omega);have:=(Ko (kb:=w4.heap.size+1) hz Yu (by omega) ⟨15,⟨#[]⟩,0,li,co,none,0,0,none,0,0,some (aP (w4.heap.size+1) 0),1,1⟩ [] [] ⟨rfl,rfl⟩ ⟨rfl,xZ _,0,.inl rfl⟩ ⟨rfl,xZ _,.inl rfl⟩).lower (Nat.le_succ _)
      rw [<- e,<- Xp.o.1,<- Xp.o.2];exact this
   | false =>
    rw [hs,if_neg (by simp)] at O
    have V:xQ (R=P a):=by
     rw [Ic.o];exact if_neg (by rw [show Zg ts a [110,111,116]=false from hs]; simp)
    clear hs Ic;go_wp2_with fail;refine(HP.o _ _ O.o.at_).mono ?_;rintro e w6 ⟨j,A,z,rfl,hv⟩;have e0:Zi P (.inl a)=R:=V.o.symm;rw [e0] at A hv;have X6:=Za (O.o.step j A);have HZ6:xQ (Wl (mb+1) w6 z R):=hv.lower (xB (O.o.box (p:=(mb,(Yf 16 li co).obj)) (by simp)));clear j A hv O e0;obtain⟨⟨m0,m1,m2,m3,m4,m5,m6,m7⟩,⟨g0,g1,g2,g3,g4,g5,g6,g7⟩,Rx⟩:=Zn (X6.o.box (p:=(mb,(Yf 16 li co).obj)) (by simp))
    obtain⟨⟨r0,r1,r2,r3,r4,r5,r6,r7⟩,⟨f0,f1,f2,f3,f4,f5,f6,f7⟩,hr4⟩:=Zn (X6.o.box (p:=(w.heap.size,Zj.obj)) (by simp));obtain⟨Tj,Ki⟩:=X6.o.at_.deep;have Ys:=X6.o.at_.ltp
    have Ub:¬ mb=w.heap.size:=by omega
    have Up:¬ pb=mb:=by omega
    have Sv:¬ pb=w.heap.size:=by omega
    have Cf:¬ mb=pb:=by omega
    have Ry:¬ w.heap.size=pb:=by omega
    have A4:¬ w.heap.size=mb:=by omega
    have hdk:((d+1:Nat):Int) - 1=(d:Int):=vR d;go_wp2_with fail;obtain⟨Wf,C⟩:=xE (((((((((((((((((w6.setCell (aP mb 0) (iP z.k)).setCell (aP mb 1) (.string z.tx)).setCell (aP mb 2) (iP z.N)).setCell (aP mb 3) (iP z.li)).setCell (aP mb 4) (iP z.co)).setCell (aP mb 5) (.slice z.ta z.tl z.tc)).setCell (aP mb 6) (.slice z.na z.nl z.nc)).setCell (aP mb 7) (.slice z.ka z.kl z.kc)).setCell (aP pb 2) (iP d)).setCell (aP w.heap.size 0) (iP z.k)).setCell (aP w.heap.size 1) (.string z.tx)).setCell (aP w.heap.size 2) (iP z.N)).setCell (aP w.heap.size 3) (iP z.li)).setCell (aP w.heap.size 4) (iP z.co)).setCell (aP w.heap.size 5) (.slice z.ta z.tl z.tc)).setCell (aP w.heap.size 6) (.slice z.na z.nl z.nc)).setCell (aP w.heap.size 7) (.slice z.ka z.kl z.kc))
    rw [<- C]
    have H:xQ (RX pb tb cap ts w Wf d (Zf R) [(w.heap.size,z.obj)]):=by
     have I:=(RX.put8 (X6.o.perm (bx':=[(mb,(Yf 16 li co).obj),(w.heap.size,Zj.obj)]) (by simp)) (by simp; omega) z).deep d;rw [C];exact(I.perm (bx':=[(w.heap.size,Zj.obj)]) (by simp)).put8 (by simp) z
    have Xd:∀ c,c≠w.heap.size->c≠mb->c≠pb->Wf.heap[c]?=w6.heap[c]?:=fun c I M h4=>by
     rw [C];exact(N7 (x:=z) I).trans ((xH h4).trans (N7 (x:=z) M))
    have Tm:w6.heap.size=Wf.heap.size:=by rw [C]; simp only [Yg]
    clear C;refine r64 rfl rfl (H.o.box (p:=(w.heap.size,z.obj)) (by simp)) rfl ⟨H.o.st,H.o.at_,z,rfl,fun D c e=>?_⟩;exact((HZ6.o D c e).keep (by omega) fun c h6 h7=>Xd c (by omega) (by omega) (by omega)).lower (by omega)
def Rj (ts:List Tok) (E:Nat->Pr Ty) (R:Pr Ty) (lo nb:Nat) (S:Yd) (wr:wD) (y:NV) (gk:Nat):Prop :=
 (∃ b m x,S = .inl b/\R=U8 ts E (m+1) x b/\ts.length<=b+m+1/\Wb lo nb wr y x/\ts.length - b<=gk)∨∃ e,S = .inr e/\R = .inr e
section
variable {ts : List Tok} {E : Nat -> Pr Ty} {R : Pr Ty} {lo nb gk : Nat} {S : Yd} {wr : wD} {y : NV}
theorem Rj.done (h:Rj ts E R lo nb S wr y gk) (C:Y2 ts S [40]=false) (F:Y2 ts S [46]=false):Zf R=S/\∀ D b,R = .inl (D,b)->Wb lo nb wr y D:=by
 rcases h with⟨b,m,x,rfl,j,_,A,_⟩ | ⟨e,rfl,j⟩
 ·have:R = .inl (x,b):=by
   have H:Zg ts b [40]=false:=C;have z:Zg ts b [46]=false:=F;rw [j,U8];simp [H,z]
  rw [this];refine⟨rfl,fun D c e=>?_⟩;injection e with e;injection e with e _;rw [<- e];exact A
 ·rw [j]
  exact⟨rfl,fun D b e=>by cases e⟩
theorem Rj.call (h:Rj ts E R lo nb S wr y gk) (z:Y2 ts S [40]=true) (C:∀ a x b,E a = .inl (x,b)->a<=b):∃ b x,S = .inl b/\Wb lo nb wr y x/\ts.length - b<=gk /\
  ((∃ D2 b2 b3,E (b+1) = .inl (D2,b2)/\Zf (Zi (fun a=>Ze ts a [41]) (Zf (E (b+1)))) = .inl b3/\b+1<b3/\(b3<ts.length->∃ m,R=U8 ts E (m+1) (Zp 7 [] 0 (Yj ts b) (Yi ts b) [] [] [x,D2]) b3/\ts.length<=b3+m+1))∨∃ e,Zf (Zi (fun a=>Ze ts a [41]) (Zf (E (b+1)))) = .inr e/\R = .inr e):=by
 rcases h with⟨b,m,x,rfl,j,h3,I,F⟩ | ⟨e,rfl,j⟩
 ·have H:Zg ts b [40]=true:=z
  rw [U8,if_pos H] at j;refine⟨b,x,rfl,I,F,?_⟩
  cases hk:E (b+1)with
  | inr e=>exact .inr ⟨e,rfl,by rw [j,hk]; rfl⟩
  | inl q =>
   obtain⟨D2,b2⟩:=q;have Z5:=C _ _ _ hk;rw [hk] at j
   have A:R=(Ze ts b2 [41]).go fun _ b=>U8 ts E m (Zp 7 [] 0 (Yj ts _) (Yi ts _) [] [] [x,D2]) b:=j
   show(∃ D2' b2' b3,_/\Zf (Ze ts b2 [41]) = .inl b3/\_)∨∃ e,Zf (Ze ts b2 [41]) = .inr e/\_
   cases hw:Ze ts b2 [41] with
   | inr e=>exact .inr ⟨e,rfl,by rw [A,hw]; rfl⟩
   | inl q =>
    obtain⟨u,b3⟩:=q;have Ts:=tH hw;refine .inl ⟨D2,b2,b3,rfl,rfl,by omega,fun hl=>?_⟩
    obtain⟨m,rfl⟩:∃ q,m=q+1:=⟨m - 1,by omega⟩
    exact⟨m,by rw [A,hw]; rfl,by omega⟩
 ·cases z
theorem Rj.sel (h:Rj ts E R lo nb S wr y gk) (C:Y2 ts S [40]=false) (z:Y2 ts S [46]=true):∃ b x,S = .inl b/\Wb lo nb wr y x/\ts.length - b<=gk /\
  ((∃ s b3,Zu ts (b+1) = .inl (s,b3)/\b+1<b3/\(b3<ts.length->∃ m,R=U8 ts E (m+1) (Zp 9 s 0 (Yj ts b) (Yi ts b) [] [] [x]) b3/\ts.length<=b3+m+1))∨∃ e,Zu ts (b+1) = .inr e/\R = .inr e):=by
 rcases h with⟨b,m,x,rfl,j,h3,J,F⟩ | ⟨e,rfl,j⟩
 ·have H:Zg ts b [40]=false:=C
  have I:Zg ts b [46]=true:=z;rw [U8] at j;simp only [H,I] at j;refine⟨b,x,rfl,J,F,?_⟩
  have A:R=(Zu ts (b+1)).go fun s c=>U8 ts E m (Zp 9 s 0 (Yj ts b) (Yi ts b) [] [] [x]) c:=j
  cases hw:Zu ts (b+1)with
  | inr e=>exact .inr ⟨e,rfl,by rw [A,hw]; rfl⟩
  | inl q =>
   obtain⟨s,b3⟩:=q;have Ts:=Eb hw;refine .inl ⟨s,b3,rfl,by omega,fun hl=>?_⟩
   obtain⟨m,rfl⟩:∃ q,m=q+1:=⟨m - 1,by omega⟩
   exact⟨m,by rw [A,hw]; rfl,by omega⟩
 ·cases z
end
theorem zho (pb tb cap d:Nat) (ts:List Tok) (ok:Ym ts) (A E:Nat->Pr Ty) (hu:∀ a x b,E a = .inl (x,b)->a<=b) (f:Nat) (hf:ts.length<=f+1)
  (hA:∀ S w,Z2 w pb tb cap ts d S->Calls prog 126 #[qP pb] w (V0 pb tb cap ts d w (Zi A S)))
  (hE:∀ S w,Z2 w pb tb cap ts d S->Calls prog 61 #[qP pb] w (V0 pb tb cap ts d w (Zi E S)))
  (S:Yd) (w:wD) (h:Z2 w pb tb cap ts d S) :
  Calls prog 120 #[qP pb] w (V0 pb tb cap ts d w (Zi (fun a=>(A a).go fun x b=>U8 ts E (f+1) x b) S)):=by
 have HA:=Za hA
 have HE:=Za hE
 have HU:=Za hu
 have OK:=Za ok
 have X0:=Za (Hb h Zj.obj)
 obtain⟨R,hR⟩:=xE (Zi (fun a=>(A a).go fun x b=>U8 ts E (f+1) x b) S)
 obtain⟨R1,Xj⟩:=xE (Zi A S)
 have V8:xQ (R=R1.go fun x b=>U8 ts E (f+1) x b):=by
  rw [hR,Xj]
  cases S <;> rfl
 have U0:=Za (HA.o S _ X0.o.at_)
 rw [<- Xj] at U0
 rw [<- hR]
 clear hR Xj hA hE hu ok h
 go_enter func120,ntmps120
 go_wp2_with fail
 refine U0.o.mono ?_
 rintro e w1 ⟨C,I,x0,rfl,hv⟩
 have X1:=Za ((X0.o.step C I).alloc x0.obj)
 rw [xS] at hv
 have Xq:=C.size
 rw [xS] at Xq
 obtain⟨nb,Vc⟩:=xE w1.heap.size
 have P7:xQ (Rj ts E R (w.heap.size+1) nb (Zf R1) (w1.alloc x0.obj) x0 ts.length):=by
  have e2:=V8.o
  cases J:R1 with
  | inr p=>exact .inr ⟨p,rfl,by rw [e2,J]; rfl⟩
  | inl q =>
   obtain⟨D,b⟩:=q;refine .inl ⟨b,f,D,rfl,by rw [e2,J]; rfl,by omega,?_,by omega⟩;rw [Vc];exact qY (hv D b J) _
 rw [<- Vc] at X1 Xq
 clear C I hv V8 X0 U0
 go_wp2_with fail
 rw [<- Vc]
 clear Vc
 go_loopg [4] (ts.length) (fun gk _ wr=>∃ (S:Yd) (y:NV),xQ (RX pb tb cap ts w wr d S [(nb,y.obj),(w.heap.size,Zj.obj)])/\xQ (Rj ts E R (w.heap.size+1) nb S wr y gk))
 case atStart=>exact⟨_,x0,X1,P7⟩
 case round =>
  clear X1 P7;obtain⟨S',y,X,HI⟩:=hrel;go_wp2_with fail;refine(zR pb tb cap d ts S' 7 _ X.o.at_).mono ?_;rintro e w2 ⟨li,co,rfl,Bl,C,I⟩;have X2:=Za ((X.o.step C I).alloc (Yf 7 li co).obj);have Yb:=xB (X.o.box (p:=(nb,y.obj)) (by simp));have hp:=X.o.hp;have Wj:=C.size
  have Hj:xQ (∀ b,w.heap.size+1<=b->b<wr.heap.size->(w2.alloc (Yf 7 li co).obj).heap[b]?=wr.heap[b]?):=fun b F H=>(xA (xT H C.size)).trans (C.keep b (by omega) H)
  have HbT:xQ (∀ b,S' = .inl b->b<ts.length):=fun b e=>by
   obtain⟨a,ha⟩:=I;have:=ha.live b e;have:=ha.lt;omega
  have N9:=Za Bl
  have Vn:xQ (w2.heap.size<(w2.alloc (Yf 7 li co).obj).heap.size):=by show _<_; rw [xS]; omega
  clear C I Bl X;go_wp2_with fail;obtain⟨mb,Bm⟩:=xE w2.heap.size;rw [<- Bm] at X2 Wj Vn ⊢;clear Bm;generalize w2.alloc (.cells #[iP 7,sP,iP 0,iP li,iP co,nP,nP,nP] 64)=W2 at X2 Hj Vn ⊢
  have Mj:nb<mb:=by omega
  refine(Vi pb tb cap d ts S' [40] W2 X2.o.at_ OK.o).mono ?_;rintro e w3 ⟨rfl,C,I⟩;have X3:=Za (X2.o.step C I)
  have Li:xQ (∀ b,w.heap.size+1<=b->b<wr.heap.size->w3.heap[b]?=wr.heap[b]?):=fun b F H=>(C.keep b (by omega) (by have:=Vn.o; omega)).trans (Hj.o b F H)
  have Vs:xQ (mb<w3.heap.size):=xT Vn.o C.size;clear C I X2 Hj
  cases J:Y2 ts S' [40] with
  | true =>
   rw [J,if_pos rfl] at X3;obtain⟨b,x,Y,hx,Pw,V⟩:=HI.o.call J HU.o;have HX:=Za hx;have Z:=Za V;obtain⟨hl,hc⟩:=N9.o b Y;have Xp:=Za (And.intro hl hc);have HGK:=Za Pw;have hbT:=HbT.o b Y;have HC:=Za (HE.o _ _ X3.o.at_)
   have e4:Zi E (Nr S')=E (b+1):=by rw [Y]; rfl
   rw [e4] at HC;clear J hx V hl hc Y Pw e4 N9 HI;go_wp2_with fail;refine HC.o.mono ?_;rintro e w4 ⟨C,I,z,rfl,hv⟩;have M:=Za ((X3.o.step C I).alloc z.obj)
   have M9:xQ (∀ b,w.heap.size+1<=b->b<wr.heap.size->(w4.alloc z.obj).heap[b]?=wr.heap[b]?):=fun b F H=>(xA (by have:=Vs.o; have:=C.size; omega)).trans ((C.keep b (by omega) (by have:=Vs.o; omega)).trans (Li.o b F H))
   have HZ4:xQ (Wl (mb+1) (w4.alloc z.obj) z (E (b+1))):=(hv.lower Vs.o).below (Zq _ _);have hs4:=C.size
   have Wm:xQ (w4.heap.size<(w4.alloc z.obj).heap.size):=by show _<_; rw [xS]; omega
   clear C I hv HC X3 Li;go_wp2_with fail;obtain⟨bb,Ga⟩:=xE w4.heap.size;rw [<- Ga] at M hs4 Wm ⊢;clear Ga;generalize w4.alloc (.cells #[iP z.k,.string z.tx,iP z.N,iP z.li,iP z.co,.slice z.ta z.tl z.tc,.slice z.na z.nl z.nc,.slice z.ka z.kl z.kc] 64)=W4 at M M9 HZ4 Wm ⊢
   have hmbb:mb<bb:=by have:=Vs.o; omega
   refine(Td pb tb cap d ts (Zf (E (b+1))) [41] W4 M.o.at_ OK.o).mono ?_;rintro e j ⟨rfl,C,I⟩;obtain⟨S5,hS5⟩:=xE (Zf (Zi (fun a=>Ze ts a [41]) (Zf (E (b+1)))));rw [<- hS5] at I Z;have X5:=Za (M.o.step C I)
   have HF5:xQ (∀ b,w.heap.size+1<=b->b<wr.heap.size->j.heap[b]?=wr.heap[b]?):=fun b F H=>(C.keep b (by omega) (by have:=Wm.o; omega)).trans (M9.o b F H)
   have HZ5:=Za (HZ4.o.stay C (by omega))
   have HLv:xQ (∀ c,S5 = .inl c->c<ts.length):=fun c e=>by
    obtain⟨a,ha⟩:=I;have:=ha.live c e;have:=ha.lt;omega
   have Do:=C.size;have HS5:xQ (bb<j.heap.size):=xT Wm.o C.size;clear C I M M9 HZ4 hS5;obtain⟨⟨n0,n1,n2,n3,n4,n5,n6,n7⟩,⟨f0,f1,f2,f3,f4,f5,f6,f7⟩,hnl5⟩:=Zn (X5.o.box (p:=(nb,y.obj)) (by simp));obtain⟨⟨m0,m1,m2,m3,m4,m5,m6,m7⟩,⟨g0,g1,g2,g3,g4,g5,g6,g7⟩,hml5⟩:=Zn (X5.o.box (p:=(mb,(Yf 7 li co).obj)) (by simp));obtain⟨⟨z0,z1,z2,z3,z4,z5,z6,z7⟩,_,hbl5⟩:=Zn (X5.o.box (p:=(bb,z.obj)) (by simp))
   have Ub:¬ mb=nb:=by omega
   have Up:¬ nb=mb:=by omega
   have Sv:¬ bb=mb:=by omega
   have Cf:¬ bb=nb:=by omega
   go_wp2_with fail;obtain⟨Wf,T⟩:=xE ((((((((((j.setCell (aP mb 7) (lP j.heap.size 2 2)).setCell (aP nb 0) (iP 7)).setCell (aP nb 1) sP).setCell (aP nb 2) (iP 0)).setCell (aP nb 3) (iP li)).setCell (aP nb 4) (iP co)).setCell (aP nb 5) nP).setCell (aP nb 6) nP).setCell (aP nb 7) (lP j.heap.size 2 2)).alloc (.cells #[iP y.k,.string y.tx,iP y.N,iP y.li,iP y.co,.slice y.ta y.tl y.tc,.slice y.na y.nl y.nc,.slice y.ka y.kl y.kc,iP z.k,.string z.tx,iP z.N,iP z.li,iP z.co,.slice z.ta z.tl z.tc,.slice z.na z.nl z.nc,.slice z.ka z.kl z.kc] 64))
   rw [<- T]
   have Tv:(put8 (j.setCell (aP mb 7) (lP j.heap.size 2 2)) nb ⟨7,⟨#[]⟩,0,li,co,none,0,0,none,0,0,some (aP j.heap.size 0),2,2⟩).heap.size=j.heap.size:=by rw [Nt,Yg]
   have Zw:xQ (RX pb tb cap ts w Wf d S5 [(nb,NV.obj ⟨7,⟨#[]⟩,0,li,co,none,0,0,none,0,0,some (aP j.heap.size 0),2,2⟩),(w.heap.size,Zj.obj)]):=by
    have F:=(X5.o.perm (bx':=[(nb,y.obj),(w.heap.size,Zj.obj)]) (by simp))
    have H:=F.far (c:=mb) (by omega) (by simp; omega) 7 (lP j.heap.size 2 2);rw [T];exact((H.put8 (by simp; omega) ⟨7,⟨#[]⟩,0,li,co,none,0,0,none,0,0,some (aP j.heap.size 0),2,2⟩).alloc (Bv y z)).drop
   have Xd:∀ c,c≠nb->c≠mb->c<j.heap.size->Wf.heap[c]?=j.heap[c]?:=fun c F H h3=>by
    rw [T];exact(xA (by rw [Tv]; exact h3)).trans ((N7 (x:=⟨7,⟨#[]⟩,0,li,co,none,0,0,none,0,0,some (aP j.heap.size 0),2,2⟩) F).trans (xH H))
   have Yu:Wf.heap[j.heap.size]?=some (Bv y z):=by
    have:=xL (put8 (j.setCell (aP mb 7) (lP j.heap.size 2 2)) nb ⟨7,⟨#[]⟩,0,li,co,none,0,0,none,0,0,some (aP j.heap.size 0),2,2⟩) (Bv y z);rw [Tv] at this;rw [T];exact this
   have Tm:j.heap.size+1=Wf.heap.size:=by rw [T,xS]; simp only [Yg]
   have HLF:xQ (∃ g',g'<gk/\Rj ts E R (w.heap.size+1) nb S5 Wf ⟨7,⟨#[]⟩,0,li,co,none,0,0,none,0,0,some (aP j.heap.size 0),2,2⟩ g'):=by
    have Pw:=HGK.o;have h55:=HS5.o;rcases Z.o with⟨D2,b2,b3,F,H,h3,h4⟩ | ⟨er,F,H⟩
    ·have Ts:=HLv.o b3 H
     obtain⟨m,h5,h6⟩:=h4 Ts;refine⟨ts.length - b3,by omega,.inl ⟨b3,m,_,H,h5,by omega,fun o=>?_,xR⟩⟩
     have hy:Wb (w.heap.size+1) nb Wf y x:=HX.o.keep Yb (by omega) fun c h6 h7 h8=>(Xd c h8 (by omega) (by omega)).trans (HF5.o c h6 h7)
     have hz:Wb (w.heap.size+1) nb Wf z D2:=qX (lo':=mb+1) ((HZ5.o D2 b2 F).keep (by omega) fun c h6 h7=>Xd c (by omega) (by omega) h7) (by omega) (by omega);have:=Dv (kb:=j.heap.size) (hy o) (hz o) ((Rg o (by omega)).trans Yu) (by omega) ⟨7,⟨#[]⟩,0,li,co,none,0,0,none,0,0,some (aP j.heap.size 0),2,2⟩ [] [] ⟨rfl,rfl⟩ ⟨rfl,xZ _,0,.inl rfl⟩ ⟨rfl,xZ _,.inl rfl⟩;rw [<- Xp.o.1,<- Xp.o.2]
     exact this
    ·exact⟨0,by omega,.inr ⟨er,F,H⟩⟩
   clear T Yu Xd Tm Tv;obtain⟨g',Qp,hL⟩:=HLF.o
   go_roundg g'
   case measure=>exact Qp
   case rel=>exact⟨_,_,Zw,hL⟩
  | false =>
   rw [J,if_neg (by simp)] at X3;have O:=Za J;clear J;go_wp2_with fail;refine(Vi pb tb cap d ts S' [46] w3 X3.o.at_ OK.o).mono ?_;rintro e w4 ⟨rfl,C,I⟩;have M:=Za (X3.o.step C I)
   have M9:xQ (∀ b,w.heap.size+1<=b->b<wr.heap.size->w4.heap[b]?=wr.heap[b]?):=fun b F H=>(C.keep b (by omega) (by have:=Vs.o; omega)).trans (Li.o b F H)
   have Wm:xQ (mb<w4.heap.size):=xT Vs.o C.size;clear C I X3 Li
   cases J:Y2 ts S' [46] with
   | false =>
    rw [J,if_neg (by simp)] at M;have HD:=Za (HI.o.done O.o J);clear J O;obtain⟨⟨n0,n1,n2,n3,n4,n5,n6,n7⟩,_,yY⟩:=Zn (M.o.box (p:=(nb,y.obj)) (by simp));obtain⟨⟨r0,r1,r2,r3,r4,r5,r6,r7⟩,⟨f0,f1,f2,f3,f4,f5,f6,f7⟩,hr4⟩:=Zn (M.o.box (p:=(w.heap.size,Zj.obj)) (by simp))
    have A4:¬ nb=w.heap.size:=by omega
    go_wp2_with fail;have XF:=RX.put8 (M.o.perm (bx':=[(w.heap.size,Zj.obj)]) (by simp)) (by simp) y;refine r64 rfl rfl (XF.box (p:=(w.heap.size,y.obj)) (by simp)) rfl ⟨XF.st,?_,y,rfl,fun D c e=>?_⟩
    ·rw [HD.o.1]
     exact XF.at_
    ·have F:Wb (w.heap.size+1) nb w4 y D:=(HD.o.2 D c e).keep Yb (by have:=Wm.o; omega) fun c h6 h7 h8=>M9.o c h6 h7
     exact((F.now yY).put8 (xU _) y).lower (Nat.le_succ _)
   | true =>
    rw [J,if_pos rfl] at M;obtain⟨b,x,Y,hx,Pw,V⟩:=HI.o.sel O.o J;have HX:=Za hx;have Z:=Za V;obtain⟨hl,hc⟩:=N9.o b Y;have Xp:=Za (And.intro hl hc);have HGK:=Za Pw;have hbT:=HbT.o b Y
    have e4:Nr S' = .inl (b+1):=by rw [Y]; rfl
    rw [e4] at M;obtain⟨⟨m0,m1,m2,m3,m4,m5,m6,m7⟩,⟨g0,g1,g2,g3,g4,g5,g6,g7⟩,Rx⟩:=Zn (M.o.box (p:=(mb,(Yf 7 li co).obj)) (by simp));have X4':xQ (RX pb tb cap ts w (w4.setCell (aP mb 0) (iP 9)) d (.inl (b+1)) [(mb,(Yf 9 li co).obj),(nb,y.obj),(w.heap.size,Zj.obj)]):=M.o.setB (by simp; omega) 0 (iP 9);clear J hx V hl hc Y Pw e4 N9 HI O M;go_wp2_with fail;refine(Gm pb tb cap d ts (.inl (b+1)) _ X4'.o.at_ OK.o).mono ?_
    rintro e j ⟨rfl,C,I⟩;have e5:Zi (Zu ts) (.inl (b+1))=Zu ts (b+1):=rfl;rw [e5] at I ⊢;obtain⟨s,J⟩:=xE (Vd (Zu ts (b+1)));rw [<- J];have Kd:=Za J;have X5:=Za (X4'.o.step C I);have h45:=C.size;rw [Yg] at h45
    have HF5:xQ (∀ b,w.heap.size+1<=b->b<wr.heap.size->j.heap[b]?=wr.heap[b]?):=fun b F H=>(C.keep b (by omega) (by rw [Yg]; have:=Wm.o; omega)).trans ((xH (by show b≠mb; omega)).trans (M9.o b F H))
    have HLv:xQ (∀ c,Zf (Zu ts (b+1)) = .inl c->c<ts.length):=fun c e=>by
     obtain⟨a,ha⟩:=I;have:=ha.live c e;have:=ha.lt;omega
    clear C I X4' M9 e5 J m0 m1 m2 m3 m4 m5 m6 m7 g0 g1 g2 g3 g4 g5 g6 g7 Rx;obtain⟨⟨n0,n1,n2,n3,n4,n5,n6,n7⟩,⟨f0,f1,f2,f3,f4,f5,f6,f7⟩,hnl5⟩:=Zn (X5.o.box (p:=(nb,y.obj)) (by simp));obtain⟨⟨m0,m1,m2,m3,m4,m5,m6,m7⟩,⟨g0,g1,g2,g3,g4,g5,g6,g7⟩,hml5⟩:=Zn (X5.o.box (p:=(mb,(Yf 9 li co).obj)) (by simp))
    have Ub:¬ mb=nb:=by omega
    have Up:¬ nb=mb:=by omega
    go_wp2_with fail;obtain⟨Wf,T⟩:=xE (((((((((((j.setCell (aP mb 1) (uP s)).setCell (aP mb 7) (lP j.heap.size 1 1)).setCell (aP nb 0) (iP 9)).setCell (aP nb 1) (uP s)).setCell (aP nb 2) (iP 0)).setCell (aP nb 3) (iP li)).setCell (aP nb 4) (iP co)).setCell (aP nb 5) nP).setCell (aP nb 6) nP).setCell (aP nb 7) (lP j.heap.size 1 1)).alloc (.cells #[iP y.k,.string y.tx,iP y.N,iP y.li,iP y.co,.slice y.ta y.tl y.tc,.slice y.na y.nl y.nc,.slice y.ka y.kl y.kc] 64))
    rw [<- T]
    have Tv:(put8 ((j.setCell (aP mb 1) (uP s)).setCell (aP mb 7) (lP j.heap.size 1 1)) nb ⟨9,⟨s.toArray⟩,0,li,co,none,0,0,none,0,0,some (aP j.heap.size 0),1,1⟩).heap.size=j.heap.size:=by rw [Nt,Yg,Yg]
    have Zw:xQ (RX pb tb cap ts w Wf d (Zf (Zu ts (b+1))) [(nb,NV.obj ⟨9,⟨s.toArray⟩,0,li,co,none,0,0,none,0,0,some (aP j.heap.size 0),1,1⟩),(w.heap.size,Zj.obj)]):=by
     have F:=(X5.o.perm (bx':=[(nb,y.obj),(w.heap.size,Zj.obj)]) (by simp))
     have H:=(F.far (c:=mb) (by omega) (by simp; omega) 1 (uP s)).far (c:=mb) (by omega) (by simp; omega) 7 (lP j.heap.size 1 1);rw [T];exact((H.put8 (by simp; omega) ⟨9,⟨s.toArray⟩,0,li,co,none,0,0,none,0,0,some (aP j.heap.size 0),1,1⟩).alloc y.obj).drop
    have Xd:∀ c,c≠nb->c≠mb->c<j.heap.size->Wf.heap[c]?=j.heap[c]?:=fun c F H h3=>by
     rw [T];exact(xA (by rw [Tv]; exact h3)).trans ((N7 (x:=⟨9,⟨s.toArray⟩,0,li,co,none,0,0,none,0,0,some (aP j.heap.size 0),1,1⟩) F).trans ((xH H).trans (xH H)))
    have Yu:Wf.heap[j.heap.size]?=some y.obj:=by
     have:=xL (put8 ((j.setCell (aP mb 1) (uP s)).setCell (aP mb 7) (lP j.heap.size 1 1)) nb ⟨9,⟨s.toArray⟩,0,li,co,none,0,0,none,0,0,some (aP j.heap.size 0),1,1⟩) y.obj;rw [Tv] at this;rw [T];exact this
    have Tm:j.heap.size+1=Wf.heap.size:=by rw [T,xS]; simp only [Yg]
    have HLF:xQ (∃ g',g'<gk/\Rj ts E R (w.heap.size+1) nb (Zf (Zu ts (b+1))) Wf ⟨9,⟨s.toArray⟩,0,li,co,none,0,0,none,0,0,some (aP j.heap.size 0),1,1⟩ g'):=by
     have Pw:=HGK.o;have h44:=Wm.o;rcases Z.o with⟨s',b3,F,h3,h4⟩ | ⟨er,F,H⟩
     ·have Dq:Zf (Zu ts (b+1)) = .inl b3:=by rw [F]; rfl
      have Ts:=HLv.o b3 Dq;obtain⟨m,h5,h6⟩:=h4 Ts
      have hss:s=s':=by rw [Kd.o,F]; rfl
      refine⟨ts.length - b3,by omega,.inl ⟨b3,m,_,Dq,h5,by omega,fun o=>?_,xR⟩⟩
      have hy:Wb (w.heap.size+1) nb Wf y x:=HX.o.keep Yb (by omega) fun c h6 h7 h8=>(Xd c h8 (by omega) (by omega)).trans (HF5.o c h6 h7)
      have:=Ko (kb:=j.heap.size) (hy o) ((Rg o (by omega)).trans Yu) (by omega) ⟨9,⟨s.toArray⟩,0,li,co,none,0,0,none,0,0,some (aP j.heap.size 0),1,1⟩ [] [] ⟨rfl,rfl⟩ ⟨rfl,xZ _,0,.inl rfl⟩ ⟨rfl,xZ _,.inl rfl⟩;rw [<- hss,<- Xp.o.1,<- Xp.o.2];exact this
     ·exact⟨0,by omega,.inr ⟨er,by rw [F]; rfl,H⟩⟩
    clear T Yu Xd Tm Tv;obtain⟨g',Qp,hL⟩:=HLF.o
    go_roundg g'
    case measure=>exact Qp
    case rel=>exact⟨_,_,Zw,hL⟩
end
theorem bM (pb tb cap:Nat) (ts:List Tok) (j:Ym ts) (f:Nat) (z:ts.length<=f+1):∀ (n d:Nat),d+n=101->d<=100->∀ (S:Yd) (w:wD),Z2 w pb tb cap ts d S ->
  Calls prog 73 #[qP pb] w (N0 pb tb cap ts d w (Zi (Wg ts (f+1) n d) S))
 | 0,d,h1,h2,_,_,_=>absurd h1 (by omega)
 | n+1,d,h1,h2,S,w,h=>by
  have C:d<100->∀ S w,Z2 w pb tb cap ts (d+1) S->Calls prog 73 #[qP pb] w (N0 pb tb cap ts (d+1) w (Zi (Wg ts (f+1) n (d+1)) S)):=fun F S w h=>bM pb tb cap ts j f z n (d+1) (by omega) (by omega) S w h
  have A:∀ a x b,Wg ts (f+1) n (d+1) a = .inl (x,b)->a<=b:=fun a x b h=>zJ h
  have H:d<100->∀ S w,Z2 w pb tb cap ts (d+1) S->Calls prog 96 #[qP pb] w (N0 pb tb cap ts (d+1) w (Zi (Jv ts (Wg ts (f+1) n (d+1)) (f+1)) S)):=fun F S w h=>by
   have:=ralt_c pb tb cap (d+1) ts j (Mw ts (Wg ts (f+1) n (d+1)) (f+1)) f z (fun a x b h=>sJ A h) (fun S w h=>zhp pb tb cap (d+1) ts j _ f z A (C F) S w h) S w h
   cases S with
   | inl a=>exact this
   | inr p=>exact this
  have:=zhc pb tb cap d ts j _ _ (by omega) H C S w h
  cases S with
  | inl a=>exact this
  | inr p=>exact this
section
attribute [local go_sem ↓] Go.wp_at_zero Go.wp_at_succ
theorem zgc (pb tb cap d:Nat) (ts:List Tok) (A:Nat->Pr Ty) (hd:d<=1000)
  (hA:d<100->∀ S w,Z2 w pb tb cap ts (d+1) S->Calls prog 76 #[qP pb] w (V0 pb tb cap ts (d+1) w (Zi A S)))
  (S:Yd) (w:wD) (h:Z2 w pb tb cap ts d S) :
  Calls prog 61 #[qP pb] w (V0 pb tb cap ts d w (Zi (fun a=>if 100<=d then Vj ts 6 a else A a) S)):=by
 obtain⟨R,hR⟩:∃ R:Pr Ty,R=Zi (fun a=>if 100<=d then Vj ts 6 a else A a) S:=⟨_,rfl⟩
 rw [<- hR]
 have HR:=Za hR
 have HA:=Za hA
 have J:=Za (Hb h Zj.obj)
 have O:=Za (fun wx hx=>bK pb tb cap d ts S hd wx hx)
 clear h hA hR
 cases U4:Hz d S with
 | false =>
  have HS:xQ (Zf R=Bd ts d S/\∀ x b,R ≠ .inl (x,b)):=by
   show _/\_;rw [HR.o]
   cases S with
   | inr p =>
    refine⟨?_,fun x b e=>by cases e⟩;show Sum.inr p=Bd ts d (.inr p);unfold Bd
    split <;> rfl
   | inl a =>
    have I:100<=d:=by simp [Hz] at U4; exact U4
    refine⟨?_,fun x b e=>?_⟩
    ·show Zf (if 100<=d then _ else _)=Bd ts d (.inl a)
     unfold Bd;rw [if_pos I,if_pos I];rfl
    ·have:(if 100<=d then(Vj ts 6 a:Pr Ty)else _) = .inl (x,b):=e
     rw [if_pos I] at this;cases this
  rw [U4] at O;clear U4;go_enter func61,ntmps61;go_wp2_with fail;refine(O.o _ J.o.at_).mono ?_;rintro e w1 ⟨rfl,j,F⟩;have C:=Za (J.o.step j F);clear j F;obtain⟨⟨r0,r1,r2,r3,r4,r5,r6,r7⟩,⟨f0,f1,f2,f3,f4,f5,f6,f7⟩,Yw⟩:=Zn (C.o.box (p:=(w.heap.size,Zj.obj)) (by simp));go_wp2_with fail;have Z:=RX.put8 C.o (by simp) Zj;refine r64 rfl rfl (Z.box (p:=(w.heap.size,Zj.obj)) (by simp)) rfl ⟨Z.st,?_,Zj,rfl,fun x b e=>absurd e (HS.o.2 x b)⟩
  rw [HS.o.1];exact Z.at_
 | true =>
  obtain⟨a,rfl⟩:∃ a,S = .inl a:=by cases S with
   | inl a=>exact⟨a,rfl⟩
   | inr p=>cases U4
  have I:¬ 100<=d:=by simp [Hz] at U4; omega
  replace HA:=Za (HA.o (by omega))
  have Kc:xQ (Zi A (.inl a)=R):=by rw [HR.o]; exact(if_neg I).symm
  have e1:Bd ts d (.inl a) = .inl a:=if_neg I;rw [U4,e1] at O;clear U4 e1 HR;go_enter func61,ntmps61;go_wp2_with fail;refine(O.o _ J.o.at_).mono ?_;rintro e w1 ⟨rfl,j,F⟩;have C:=Za (J.o.step j F);clear j F J;have hp:=C.o.hp;have HC:=Za (HA.o _ _ C.o.at_);rw [Kc.o] at HC;go_wp2_with fail;refine HC.o.mono ?_;rintro e H ⟨j,F,z,rfl,hv⟩;have T:=Za (C.o.step j F)
  have V:xQ (Wl (w.heap.size+1) H z R):=hv.lower (xB (C.o.box (p:=(w.heap.size,Zj.obj)) (by simp)));clear j F hv C HC;obtain⟨⟨r0,r1,r2,r3,r4,r5,r6,r7⟩,⟨f0,f1,f2,f3,f4,f5,f6,f7⟩,hr4⟩:=Zn (T.o.box (p:=(w.heap.size,Zj.obj)) (by simp));obtain⟨Tj,Ki⟩:=T.o.at_.deep;have Ys:=T.o.at_.ltp
  have Sv:¬ pb=w.heap.size:=by omega
  have Ry:¬ w.heap.size=pb:=by omega
  have hdk:((d+1:Nat):Int) - 1=(d:Int):=vR d;go_wp2_with fail;obtain⟨Wf,M⟩:=xE ((((((((((H.setCell (aP pb 2) (iP d)).setCell (aP w.heap.size 0) (iP z.k)).setCell (aP w.heap.size 1) (.string z.tx)).setCell (aP w.heap.size 2) (iP z.N)).setCell (aP w.heap.size 3) (iP z.li)).setCell (aP w.heap.size 4) (iP z.co)).setCell (aP w.heap.size 5) (.slice z.ta z.tl z.tc)).setCell (aP w.heap.size 6) (.slice z.na z.nl z.nc)).setCell (aP w.heap.size 7) (.slice z.ka z.kl z.kc)).alloc (.cells #[iP z.k,.string z.tx,iP z.N,iP z.li,iP z.co,.slice z.ta z.tl z.tc,.slice z.na z.nl z.nc,.slice z.ka z.kl z.kc] 64))
  rw [<- M]
  have Y:xQ (RX pb tb cap ts w Wf d (Zf R) [(w.heap.size,z.obj)]):=by
   rw [M];exact(((T.o.deep d).put8 (by simp) z).alloc z.obj).drop
  have Tv:(put8 (H.setCell (aP pb 2) (iP d)) w.heap.size z).heap.size=H.heap.size:=by rw [Nt,Yg]
  have Xd:∀ c,c≠w.heap.size->c≠pb->c<H.heap.size->Wf.heap[c]?=H.heap[c]?:=fun c h1 h2 h3=>by
   rw [M];exact(xA (by rw [Tv]; exact h3)).trans ((N7 (x:=z) h1).trans (xH h2))
  have Tm:H.heap.size+1=Wf.heap.size:=by rw [M,xS]; simp only [Yg]
  clear M;refine r64 rfl rfl (Y.o.box (p:=(w.heap.size,z.obj)) (by simp)) rfl ⟨Y.o.st,Y.o.at_,z,rfl,fun D c e=>?_⟩;exact((V.o D c e).keep (by omega) fun c h6 h7=>Xd c (by omega) (by omega) h7).lower (by omega)
theorem zht (pb tb cap d:Nat) (ts:List Tok) (A:Nat->Pr Ty)
  (O:∀ S w,Z2 w pb tb cap ts d S->Calls prog 110 #[qP pb] w (V0 pb tb cap ts d w (Zi A S)))
  (S:Yd) (w:wD) (h:Z2 w pb tb cap ts d S) :
  Calls prog 98 #[qP pb,iP 6] w (V0 pb tb cap ts d w (Zi A S)):=by
 have Y:=Za O
 have hp:=h.ltp
 have F:=Za ((((((((Hb h Zj.obj).alloc (Vb (Qg 0))).alloc (Vb (Qg 1))).alloc (Vb (Qg 2))).alloc (Vb (Qg 3))).alloc (Vb (Qg 4))).alloc (Vb (Qg 5))).alloc (Gp w.heap.size))
 obtain⟨R,J⟩:=xE (Zi A S)
 have V:=Za J
 rw [<- J]
 clear h O J
 go_enter func98,ntmps98
 go_wp2_with fail
 refine(Y.o S _ F.o.at_).mono ?_
 rintro e T ⟨M,H,z,rfl,hv⟩
 rw [<- V.o] at H hv
 have N:=Za ((F.o.step M H).perm (bx':=[(w.heap.size,Zj.obj)]) (by simp))
 have j:=hv
 simp only [xS] at j
 have C:xQ (Wl (w.heap.size+1) T z R):=j.lower (by omega)
 clear M H hv j F
 obtain⟨⟨r0,r1,r2,r3,r4,r5,r6,r7⟩,⟨f0,f1,f2,f3,f4,f5,f6,f7⟩,hr4⟩:=Zn (N.o.box (p:=(w.heap.size,Zj.obj)) (by simp))
 go_wp2_with fail
 have I:=RX.put8 N.o (by simp) z
 refine r64 rfl rfl (I.box (p:=(w.heap.size,z.obj)) (by simp)) rfl ⟨I.st,I.at_,z,rfl,fun D c e=>?_⟩
 exact((C.o D c e).put8 (xU _) z).lower (Nat.le_succ _)
theorem zhs (pb tb cap d:Nat) (ts:List Tok) (A:Nat->Pr Ty)
  (O:∀ S w,Z2 w pb tb cap ts d S->Calls prog 111 #[qP pb] w (V0 pb tb cap ts d w (Zi A S)))
  (S:Yd) (w:wD) (h:Z2 w pb tb cap ts d S) :
  Calls prog 98 #[qP pb,iP 2] w (V0 pb tb cap ts d w (Zi A S)):=by
 have Y:=Za O
 have hp:=h.ltp
 have F:=Za ((((((((Hb h Zj.obj).alloc (Vb (Qg 0))).alloc (Vb (Qg 1))).alloc (Vb (Qg 2))).alloc (Vb (Qg 3))).alloc (Vb (Qg 4))).alloc (Vb (Qg 5))).alloc (Gp w.heap.size))
 obtain⟨R,J⟩:=xE (Zi A S)
 have V:=Za J
 rw [<- J]
 clear h O J
 go_enter func98,ntmps98
 go_wp2_with fail
 refine(Y.o S _ F.o.at_).mono ?_
 rintro e T ⟨M,H,z,rfl,hv⟩
 rw [<- V.o] at H hv
 have N:=Za ((F.o.step M H).perm (bx':=[(w.heap.size,Zj.obj)]) (by simp))
 have j:=hv
 simp only [xS] at j
 have C:xQ (Wl (w.heap.size+1) T z R):=j.lower (by omega)
 clear M H hv j F
 obtain⟨⟨r0,r1,r2,r3,r4,r5,r6,r7⟩,⟨f0,f1,f2,f3,f4,f5,f6,f7⟩,hr4⟩:=Zn (N.o.box (p:=(w.heap.size,Zj.obj)) (by simp))
 go_wp2_with fail
 have I:=RX.put8 N.o (by simp) z
 refine r64 rfl rfl (I.box (p:=(w.heap.size,z.obj)) (by simp)) rfl ⟨I.st,I.at_,z,rfl,fun D c e=>?_⟩
 exact((C.o D c e).put8 (xU _) z).lower (Nat.le_succ _)
theorem ror_c (pb tb cap d:Nat) (ts:List Tok) (j:Ym ts) (K U:Nat->Pr Ty) (f:Nat) (A:ts.length<=f+1) (C:∀ a x b,K a = .inl (x,b)->a<=b) (z:∀ a x b,U a = .inl (x,b)->a<=b)
  (Y:∀ S w,Z2 w pb tb cap ts d S->Calls prog 73 #[qP pb] w (N0 pb tb cap ts d w (Zi K S)))
  (V:∀ S w,Z2 w pb tb cap ts d S->Calls prog 110 #[qP pb] w (V0 pb tb cap ts d w (Zi U S)))
  (S:Yd) (w:wD) (h:Z2 w pb tb cap ts d S) :
  Calls prog 98 #[qP pb,iP 0] w (V0 pb tb cap ts d w (Zi (Co ts K U (f+1)) S)):=by
 have T:∀ S w,Z2 w pb tb cap ts d S->Calls prog 98 #[qP pb,iP ((5+1:Nat):Int)] w (V0 pb tb cap ts d w (Zi U S)):=fun S w h=>zht pb tb cap d ts U V S w h
 have N:∀ S w,Z2 w pb tb cap ts d S->Calls prog 98 #[qP pb,iP ((4+1:Nat):Int)] w (V0 pb tb cap ts d w (Zi (Oi ts U (f+1)) S)):=fun S w h=>uR pb tb cap d ts j 5 (by omega) (by omega) U z f A T S w h
 have F:=Fu (ts:=ts) (L:=[[42],[47],[37],[38],[60,60],[62,62]]) z (f+1)
 have h4:∀ S w,Z2 w pb tb cap ts d S->Calls prog 98 #[qP pb,iP ((3+1:Nat):Int)] w (V0 pb tb cap ts d w (Zi (Ct ts U (f+1)) S)):=fun S w h=>uR pb tb cap d ts j 4 (by omega) (by omega) (Oi ts U (f+1)) F f A N S w h
 have H:∀ a x b,Ct ts U (f+1) a = .inl (x,b)->a<=b:=Fu (ts:=ts) (L:=[[43],[45],[94]]) (sub:=Oi ts U (f+1)) F (f+1)
 have Z:∀ S w,Z2 w pb tb cap ts d S->Calls prog 98 #[qP pb,iP 3] w (V0 pb tb cap ts d w (Zi (F9 ts U (f+1)) S)):=fun S w h=>uR pb tb cap d ts j 3 (by omega) (by omega) (Ct ts U (f+1)) H f A h4 S w h
 have J:∀ a x b,F9 ts U (f+1) a = .inl (x,b)->a<=b:=Fu (ts:=ts) (L:=[[43,43]]) (sub:=Ct ts U (f+1)) H (f+1)
 have O:∀ S w,Z2 w pb tb cap ts d S->Calls prog 111 #[qP pb] w (V0 pb tb cap ts d w (Zi (Hx ts K (F9 ts U (f+1))) S)):=fun S w h=>rcmp_c pb tb cap d ts j K (F9 ts U (f+1)) Y Z S w h
 have h2:∀ S w,Z2 w pb tb cap ts d S->Calls prog 98 #[qP pb,iP ((1+1:Nat):Int)] w (V0 pb tb cap ts d w (Zi (Hx ts K (F9 ts U (f+1))) S)):=fun S w h=>zhs pb tb cap d ts _ O S w h
 have I:=lC (ts:=ts) C J
 have M:∀ S w,Z2 w pb tb cap ts d S->Calls prog 98 #[qP pb,iP ((0+1:Nat):Int)] w (V0 pb tb cap ts d w (Zi (Ih ts K U (f+1)) S)):=fun S w h=>uR pb tb cap d ts j 1 (by omega) (by omega) (Hx ts K (F9 ts U (f+1))) I f A h2 S w h
 have u1:∀ a x b,Ih ts K U (f+1) a = .inl (x,b)->a<=b:=Fu (ts:=ts) (L:=[[97,110,100]]) (sub:=Hx ts K (F9 ts U (f+1))) I (f+1)
 exact uR pb tb cap d ts j 0 (by omega) (by omega) (Ih ts K U (f+1)) u1 f A M S w h
theorem sS (pb tb cap:Nat) (ts:List Tok) (z:Ym ts) (f:Nat) (C:ts.length<=f+1):∀ (n d:Nat),d+n=101->d<=100 ->
  (∀ (S:Yd) (w:wD),Z2 w pb tb cap ts d S->Calls prog 61 #[qP pb] w (V0 pb tb cap ts d w (Zi (Vo ts (f+1) n false d) S))) /\
  (∀ (S:Yd) (w:wD),Z2 w pb tb cap ts d S->Calls prog 110 #[qP pb] w (V0 pb tb cap ts d w (Zi (Vo ts (f+1) n true d) S)))
 | 0,d,I,N=>absurd I (by omega)
 | n+1,d,I,N=>by
  have J:d<100->∀ S w,Z2 w pb tb cap ts (d+1) S->Calls prog 73 #[qP pb] w (N0 pb tb cap ts (d+1) w (Zi (Wg ts (f+1) 101 (d+1)) S)):=fun j S w h=>by
   have e:Wg ts (f+1) 101 (d+1)=Wg ts (f+1) (100 - d) (d+1):=funext fun a=>nC ts (f+1) 101 (100 - d) (d+1) a (by omega) (by omega)
   rw [e];exact bM pb tb cap ts z f C (100 - d) (d+1) (by omega) (by omega) S w h
  have A:=fun j:d<100=>sS pb tb cap ts z f C n (d+1) (by omega) (by omega)
  have F:∀ a x b,Wg ts (f+1) 101 (d+1) a = .inl (x,b)->a<=b:=fun a x b h=>zJ h
  have H:=zB ts (f+1) n false (d+1);have M:=zB ts (f+1) n true (d+1);refine⟨fun S w h=>?_,fun S w h=>?_⟩
  ·have:=zgc pb tb cap d ts (Nh ts (Wg ts (f+1) 101 (d+1)) (Vo ts (f+1) n false (d+1)) (Vo ts (f+1) n true (d+1)) (f+1)) (by omega) (fun j S w h=>zhb pb tb cap (d+1) ts z _ _ _ (f+1) (J j) (A j).1 (fun S w h=>ror_c pb tb cap (d+1) ts z _ _ f C F M (J j) (A j).2 S w h) S w h) S w h
   cases S with
   | inl a=>exact this
   | inr p=>exact this
  ·have:=zhy pb tb cap d ts z (Vo ts (f+1) n true (d+1)) (fun a=>(Pt ts (Wg ts (f+1) 101 (d+1)) (Vo ts (f+1) n false (d+1)) (f+1) a).go fun x b=>U8 ts (Vo ts (f+1) n false (d+1)) (f+1) x b) (by omega) (fun j=>(A j).2) (fun j S w h=>zho pb tb cap (d+1) ts z _ _ H f C (fun S w h=>zgf pb tb cap (d+1) ts z _ _ f C F (J j) (A j).1 (fun a li co w I N h=>rrec_c pb tb cap (d+1) ts z _ f C H (A j).1 a li co w I N h) S w h) (A j).1 S w h) S w h
   cases S with
   | inl a=>exact this
   | inr p=>exact this
end
end Go.Proofs.YtoppemkjhhlegaaGreatDoor
