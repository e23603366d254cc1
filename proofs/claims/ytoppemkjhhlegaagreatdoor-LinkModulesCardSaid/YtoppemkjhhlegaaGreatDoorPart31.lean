/- Part. -/
import Derived.Test.YtoppemkjhhlegaaGreatDoorPart30
set_option maxRecDepth 100000
set_option maxHeartbeats 4000000
namespace Go.Proofs.YtoppemkjhhlegaaGreatDoor
open Go.Proofs.Tryz
section
open Go.RowKit
theorem zan {α:Type} (ts:List Tok) (R:Pr α):(∃ x b,R = .inl (x,b)/\Ls ts (Zf R) = .inl b/\E8 (K7 ts R) = .inl x)∨∃ p,Ls ts (Zf R) = .inr p/\E8 (K7 ts R) = .inr p:=by
 cases R with
 | inr p=>exact .inr ⟨p,rfl,rfl⟩
 | inl q =>
  obtain⟨x,b⟩:=q;by_cases h:((Zk ts b).kind == 0)=true
  ·refine .inl ⟨x,b,rfl,if_pos h,?_⟩
   show E8 (if (Zk ts b).kind == 0 then .inl (x,b)else Vj ts 7 b)=_;rw [if_pos h];rfl
  ·refine .inr ⟨(7,(Zk ts b).line,(Zk ts b).col),if_neg h,?_⟩
   show E8 (if (Zk ts b).kind == 0 then .inl (x,b)else Vj ts 7 b)=_;rw [if_neg h];rfl
theorem yS (w:wD) (i:Nat):w.drew.heap[i]?=w.heap[i]?:=rfl
theorem zee {l:bS} {ts:List Tok} (h:Pz l = .inl ts):P2 l=E8 (K7 ts (Du ts)):=by
 rw [<- dB]
 exact dC h
theorem zge (S:bA) (hS:S.size<=140737488351232) (w:wD) :
  Calls prog 29 #[.string S] w (tU w Xf.val MdE (P2 S.data.toList)):=by
 go_enter func29,ntmps29
 go_wp2_with fail
 refine(zgi S hS _).mono ?_
 intro e w2 Zh
 obtain⟨Z5,hm⟩:=Zh
 have Xa:xQ (Below w.heap.size w w2):=Zz (Zz (Zq _ _) (Zq _ _)) Z5
 have H:xQ (w2.heap[w.heap.size]?=some Xf.obj):=(Z5.block _ (by rw [xS,xS]; omega)).trans ((xA (by rw [xS]; omega)).trans (xL w _))
 have M8:xQ (w2.heap[w.heap.size+1]?=some Es):=(Z5.block _ (by rw [xS,xS]; omega)).trans (Bg w _ _)
 have Wj:w.heap.size+2<=w2.heap.size:=xB M8.o
 clear Z5
 rw [xS,xS] at hm
 cases O:Pz S.data.toList with
 | inr p =>
  obtain⟨x,li,co⟩:=p;rw [O] at hm;obtain⟨pb,rfl⟩:=hm
  have hx0:(x != 0)=true:=by simpa using nG O
  have HE:xQ (P2 S.data.toList = .inr (x,li,co)):=by show _=_; unfold P2; rw [O]
  have A:=Za ((Below.heap_alloc w2 (N2 li co x) _ (xB H.o)).trans H.o);have C:=Za ((Below.heap_alloc w2 (N2 li co x) _ (xB M8.o)).trans M8.o);have h:=Za (xL w2 (N2 li co x));have F:=Za (Zz Xa.o (Zq w2 (N2 li co x)));clear O;go_wp2_with fail;obtain⟨db,N3⟩:=xE w2.heap.size;rw [<- N3] at h Wj ⊢;clear N3 H M8 Xa;generalize w2.alloc (N2 li co x)=W2 at A C h F ⊢;obtain⟨⟨a0,a1⟩,⟨q0,q1⟩,hla⟩:=Nf A.o
  obtain⟨⟨d0,d1,d2,d3⟩,⟨g0,g1,g2,g3⟩,hld⟩:=Yh C.o;obtain⟨⟨s0,s1,s2,s3⟩,_,hls⟩:=Yh h.o
  have Ub:¬ db=w.heap.size:=by omega
  have Up:¬ db=w.heap.size+1:=by omega
  go_region
  all_goals
   go_wp2_with fail;obtain⟨Wf,j⟩:=xE ((((((((W2.setCell (aP w.heap.size 0) nP).setCell (aP w.heap.size 1) nP).setCell (aP (w.heap.size+1) 0) (iP 0)).setCell (aP (w.heap.size+1) 1) (iP li)).setCell (aP (w.heap.size+1) 2) (iP co)).setCell (aP (w.heap.size+1) 3) (iP x)).drew));rw [<- j]
   have Nn:Wf.heap[w.heap.size]?=some Xf.obj:=by
    rw [j,yS];exact(Q1 (b:=w.heap.size+1) (i:=w.heap.size) (by omega) (iP 0) (iP li) (iP co) (iP x)).trans (Eh (x:=Xf) A.o)
   have Mv:Wf.heap[w.heap.size+1]?=some (N2 li co x):=by
    rw [j,yS];exact set4 ((Ag (x:=Xf) (b:=w.heap.size) (i:=w.heap.size+1) (by omega)).trans C.o) (iP 0) (iP li) (iP co) (iP x)
   have I:Below w.heap.size w Wf:=by
    rw [j];exact(G4 (E5 F.o (xR) Xf) (by omega) (iP 0) (iP li) (iP co) (iP x)).drew
   clear j;refine bodyPost_ret (Og rfl _ rfl Nn underlying40 (by kernel_rfl) rfl Mv underlying47 (by kernel_rfl)) rfl ?_;rw [HE.o];exact⟨I,rfl⟩
 | inl ts =>
  rw [O] at hm;obtain⟨pb,g,cap,rfl,Xo,Y⟩:=hm;have OK:=Za (uE O);have HE:=Za (zee O);have HPB:=Za Xo;have D4:=Za (Y.alloc (N2 0 0 0));have Ys:=Y.ltp;have A:=Za ((Below.heap_alloc w2 (N2 0 0 0) _ (xB H.o)).trans H.o);have C:=Za ((Below.heap_alloc w2 (N2 0 0 0) _ (xB M8.o)).trans M8.o);have h:=Za (xL w2 (N2 0 0 0));have F:=Za (Zz Xa.o (Zq w2 (N2 0 0 0)));have HK:=Za (zhd pb g cap ts OK.o _ D4.o)
  obtain⟨T,hRK⟩:=xE (Du ts);rw [<- hRK] at HK HE;clear O Y Xo hRK;go_wp2_with fail;obtain⟨db,N3⟩:=xE w2.heap.size;rw [<- N3] at h Wj Ys ⊢;clear N3 H M8 Xa;generalize w2.alloc (N2 0 0 0)=W2 at A C h F D4 HK ⊢;refine HK.o.mono ?_;rintro e w3 ⟨Z,Y,z,rfl,hv⟩;have Fj:=Z.size;have hlG:=xB h.o;have Tb:=Za (Z.trans (Zl.of (xT Ys (Nat.le_trans (Nat.le_of_lt hlG) Fj)) (Zq w3 (z.obj))))
  have J:=Za (Y.alloc (z.obj));have N:=Za (xL w3 (z.obj))
  have F6:xQ (∀ D b,T = .inl (D,b)->Ul (db+1) (w3.alloc z.obj) z D):=fun D b e=>((hv D b e).lower (show db+1<=W2.heap.size from hlG)).keep (by rw [xS]; omega) fun b _ O=>xA O
  clear Z Y hv HK D4;go_wp2_with fail;obtain⟨tb,Uf⟩:=xE w3.heap.size;rw [<- Uf] at N Fj ⊢;clear Uf;generalize w3.alloc (.cells #[.slice z.ia z.il z.ic,.slice z.da z.dl z.dc] 40)=W3 at Tb J N F6 ⊢;refine(rend_c pb g cap 0 ts (Zf T) W3 J.o).mono ?_;rintro e w4 ⟨rfl,Z,Y⟩;obtain⟨li,Ge⟩:=xE (lS (Ls ts (Zf T)));obtain⟨co,Pv⟩:=xE (cS (Ls ts (Zf T)));obtain⟨er,her⟩:=xE (eS (Ls ts (Zf T)))
  rw [<- Ge,<- Pv,<- her];have V:=Za (And.intro Ge (And.intro Pv her));clear Ge Pv her;have hpB:=HPB.o;have P8:=Za (Tb.o.trans Z);have HA4:=Za ((P8.o.below.block _ (by omega)).trans A.o);have HD4:=Za ((P8.o.below.block _ (by omega)).trans C.o);have HG4:=Za ((P8.o.keep _ (by omega) hlG).trans h.o);have HT4:=Za ((Z.keep _ (by omega) (xB N.o)).trans N.o);have Hh:xQ (Below w.heap.size w w4):=F.o.trans (P8.o.below.mono (by omega))
  have Kw:xQ (∀ D b,T = .inl (D,b)->Ul (db+1) w4 z D):=fun D b e=>(F6.o D b e).stay Z (by omega)
  have HBad:xQ (∀ p,Ls ts (Zf T) = .inr p->p.1≠0):=fun p e=>by
   obtain⟨a,ha⟩:=Y;exact ha.bad p e
  clear Z Y Tb J N F6 A C h F;obtain⟨⟨a0,a1⟩,⟨q0,q1⟩,hla⟩:=Nf HA4.o;obtain⟨⟨d0,d1,d2,d3⟩,⟨g0,g1,g2,g3⟩,hld⟩:=Yh HD4.o;obtain⟨⟨s0,s1,s2,s3⟩,⟨y0,y1,y2,y3⟩,hls⟩:=Yh HG4.o;obtain⟨⟨t0,t1⟩,_,Zt⟩:=Nf HT4.o
  have Ub:¬ db=w.heap.size:=by omega
  have Up:¬ db=w.heap.size+1:=by omega
  have Sv:¬ tb=w.heap.size:=by omega
  have Cf:¬ tb=w.heap.size+1:=by omega
  have Ry:¬ tb=db:=by omega
  rcases zan ts T with⟨D,b,hR,he,hd⟩ | ⟨p,he,hd⟩
  ·have HE2:=Za (HE.o.trans hd)
   have HR:=Za hR
   have M:xQ (li=0/\co=0/\er=0):=by
    have:=V.o;rw [he] at this;exact this
   have hx0:(er != 0)=false:=by rw [M.o.2.2]; rfl
   clear he hd hR V;go_wp2_with fail;go_region
   all_goals
    go_wp2_with fail;obtain⟨Wf,j⟩:=xE (((((((((((((w4.setCell (aP db 0) (iP 0)).setCell (aP db 1) (iP li)).setCell (aP db 2) (iP co)).setCell (aP db 3) (iP er)).setCell (aP w.heap.size 0) (.slice z.ia z.il z.ic)).setCell (aP w.heap.size 1) (.slice z.da z.dl z.dc)).setCell (aP (w.heap.size+1) 0) (iP 0)).setCell (aP (w.heap.size+1) 1) (iP li)).setCell (aP (w.heap.size+1) 2) (iP co)).setCell (aP (w.heap.size+1) 3) (iP er))).drew))
    rw [<- j]
    have Nn:Wf.heap[w.heap.size]?=some z.obj:=by
     rw [j,yS];exact(Q1 (b:=w.heap.size+1) (i:=w.heap.size) (by omega) (iP 0) (iP li) (iP co) (iP er)).trans (Eh (x:=z) (y:=Xf) ((Q1 (w:=w4) (b:=db) (i:=w.heap.size) (by omega) (iP 0) (iP li) (iP co) (iP er)).trans HA4.o))
    have Mv:Wf.heap[w.heap.size+1]?=some (N2 li co er):=by
     rw [j,yS];exact set4 ((Ag (x:=z) (b:=w.heap.size) (i:=w.heap.size+1) (by omega)).trans ((Q1 (w:=w4) (b:=db) (i:=w.heap.size+1) (by omega) (iP 0) (iP li) (iP co) (iP er)).trans HD4.o)) (iP 0) (iP li) (iP co) (iP er)
    have I:Below w.heap.size w Wf:=by
     rw [j];exact(G4 (E5 (G4 Hh.o (by omega) (iP 0) (iP li) (iP co) (iP er)) (xR) z) (by omega) (iP 0) (iP li) (iP co) (iP er)).drew
    have Dl:∀ D b,T = .inl (D,b)->Ul (db+1) Wf z D:=fun D b e=>by
     rw [j];exact((((Kw.o D b e).set4 (b:=db) (by omega) (iP 0) (iP li) (iP co) (iP er)).putM (b:=w.heap.size) (by omega) z).set4 (b:=w.heap.size+1) (by omega) (iP 0) (iP li) (iP co) (iP er)).drew
    clear j;refine bodyPost_ret (Og rfl _ rfl Nn underlying40 (by kernel_rfl) rfl Mv underlying47 (by kernel_rfl)) rfl ?_;rw [HE2.o];obtain⟨e1,e2,e3⟩:=M.o;subst e1 e2 e3;exact⟨I,_,rfl,z,rfl,(Dl D b HR.o).lower (by omega)⟩
  ·have HE2:=Za (HE.o.trans hd)
   have M:xQ (p=(er,li,co)):=by
    have:=V.o;rw [he] at this;obtain⟨p1,p2,p3⟩:=p;obtain⟨h1,h2,h3⟩:=this;have e1:li=p2:=h1;have e2:co=p3:=h2;have e3:er=p1:=h3;show _=_;rw [e1,e2,e3]
   have hx0:(er != 0)=true:=by
    have h1:=HBad.o _ he;rw [M.o] at h1
    simpa using h1
   clear he hd V;go_wp2_with fail;go_region
   all_goals
    go_wp2_with fail;obtain⟨Wf,j⟩:=xE (((((((((((((w4.setCell (aP db 0) (iP 0)).setCell (aP db 1) (iP li)).setCell (aP db 2) (iP co)).setCell (aP db 3) (iP er)).setCell (aP w.heap.size 0) nP).setCell (aP w.heap.size 1) nP).setCell (aP (w.heap.size+1) 0) (iP 0)).setCell (aP (w.heap.size+1) 1) (iP li)).setCell (aP (w.heap.size+1) 2) (iP co)).setCell (aP (w.heap.size+1) 3) (iP er))).drew))
    rw [<- j]
    have Nn:Wf.heap[w.heap.size]?=some Xf.obj:=by
     rw [j,yS];exact(Q1 (b:=w.heap.size+1) (i:=w.heap.size) (by omega) (iP 0) (iP li) (iP co) (iP er)).trans (Eh (x:=Xf) (y:=Xf) ((Q1 (w:=w4) (b:=db) (i:=w.heap.size) (by omega) (iP 0) (iP li) (iP co) (iP er)).trans HA4.o))
    have Mv:Wf.heap[w.heap.size+1]?=some (N2 li co er):=by
     rw [j,yS];exact set4 ((Ag (x:=Xf) (b:=w.heap.size) (i:=w.heap.size+1) (by omega)).trans ((Q1 (w:=w4) (b:=db) (i:=w.heap.size+1) (by omega) (iP 0) (iP li) (iP co) (iP er)).trans HD4.o)) (iP 0) (iP li) (iP co) (iP er)
    have I:Below w.heap.size w Wf:=by
     rw [j];exact(G4 (E5 (G4 Hh.o (by omega) (iP 0) (iP li) (iP co) (iP er)) (xR) Xf) (by omega) (iP 0) (iP li) (iP co) (iP er)).drew
    clear j;refine bodyPost_ret (Og rfl _ rfl Nn underlying40 (by kernel_rfl) rfl Mv underlying47 (by kernel_rfl)) rfl ?_;rw [HE2.o,M.o];exact⟨I,rfl⟩
end
section
open Go.RowKit Go.Maps
def Gk (vN vM vD:vL) (X:Option Nat) (q:Nat):Prop:=vN.ownBlock=some q∨vM.ownBlock=some q∨vD.ownBlock=some q∨X=some q
abbrev I8 (vN vM:vL):Obj := .cells #[vN,vM,nP,sP,iP 0,iP 0] 31
abbrev Dw:vL:=nP
structure FO (lo:Nat) (w:wD) (vN vM vD:vL) (xs:List MV) (r:R1) (X:Option Nat):Prop where
 rN:w.ownsRow lo 9 1 vN r.names.length (r.names.map Le)
 rM:w.ownsRow lo 40 2 vM r.mods.length (xs.flatMap Q0)
 rD:w.ownsRow lo 47 4 vD r.ds.length (r.ds.flatMap U3)
 xl:xs.length=r.mods.length
 mo:∀ i (h1:i<xs.length) (h2:i<r.mods.length),Xt M4 lo (Gk vN vM vD X) w (Q0 xs[i]) r.mods[i]
 ex:∀ q,X=some q->lo<=q/\q<w.heap.size/\vN.ownBlock≠some q/\vM.ownBlock≠some q/\vD.ownBlock≠some q
structure FI (rb:Nat) (w wr:wD) (vN vM vD:vL) (xs:List MV) (r:R1) (X:Option Nat):Prop where
 b:Below rb w wr
 res:wr.heap[rb]?=some (I8 Dw Dw)
 box:wr.heap[rb+1]?=some (I8 vN vM)
 o:FO (rb+2) wr vN vM vD xs r X
section
variable {rb lo B : Nat} {w wr w' : wD} {vN vM vD vN' vM' vD' : vL} {xs : List MV} {r : R1} {X : Option Nat} {S G : Nat -> Prop}
theorem FO.apart (h:FO lo w vN vM vD xs r X) {q:Nat} (j:Gk vN vM vD X q):lo<=q/\q<w.heap.size:=by
 rcases j with e | e | e | e
 ·exact h.rN.lt q e
 ·exact h.rM.lt q e
 ·exact h.rD.lt q e
 ·exact⟨(h.ex q e).1,(h.ex q e).2.1⟩
theorem FO.mo' (h:FO lo w vN vM vD xs r X) (A:Z0 B S w w') (F:∀ b,S b->b<lo∨Gk vN vM vD X b) (C:∀ q,G q->Gk vN vM vD X q∨w.heap.size<=q):∀ i (j:i<xs.length) (z:i<r.mods.length),Xt M4 lo G w' (Q0 xs[i]) r.mods[i]:=fun i j z =>
 (h.mo i j z).chg A F C
theorem FO.keep (h:FO lo w vN vM vD xs r X) (j:Z0 B S w w') (z:∀ b,S b->b<lo):FO lo w' vN vM vD xs r X where
 rN:=j.row h.rN fun q e e'=>by have:=(h.rN.lt q e).1; have:=z q e'; omega
 rM:=j.row h.rM fun q e e'=>by have:=(h.rM.lt q e).1; have:=z q e'; omega
 rD:=j.row h.rD fun q e e'=>by have:=(h.rD.lt q e).1; have:=z q e'; omega
 xl:=h.xl
 mo:=h.mo' j (fun b e => .inl (z b e)) fun q A => .inl A
 ex:=fun q e=>⟨(h.ex q e).1,xT (h.ex q e).2.1 j.size,(h.ex q e).2.2⟩
theorem FO.below (h:FO lo w vN vM vD xs r X) (j:Below w.heap.size w w'):FO lo w' vN vM vD xs r X:=h.keep (Z0.of (B:=0) (S:=fun _=>False) j (xZ _)) fun _ e=>e.elim
theorem FI.lt (h:FI rb w wr vN vM vD xs r X):rb+2<=wr.heap.size:=xB h.box
theorem FI.below (h:FI rb w wr vN vM vD xs r X) (j:Below wr.heap.size wr w'):FI rb w w' vN vM vD xs r X where
 b:=h.b.trans (j.mono (by have:=h.lt; omega))
 res:=(j.block _ (xB h.res)).trans h.res
 box:=(j.block _ (xB h.box)).trans h.box
 o:=h.o.below j
theorem FI.pushN (h:FI rb w wr vN vM vD xs r X) {s:Bs} (F:w'.heap[rb+1]?=some (I8 vN' vM)) (A:w'.ownsRow (rb+2) 9 1 vN' (r.names.length+1) (r.names.map Le ++ [Le s])) (hm:Jt wr vN vN') (j:Z0 (rb+1) (fun b=>b=rb+1∨vN.ownBlock=some b) wr w') :
  FI rb w w' vN' vM vD xs { r with names:=r.names ++ [s] } X where
 b:=h.b.trans (j.below.mono (by omega))
 res:=j.obj h.res fun e=>by
  rcases e with e | e
  ·omega
  ·have:=(h.o.rN.lt _ e).1; omega
 box:=F
 o:={
  rN:=by
   show w'.ownsRow _ _ _ _ (r.names ++ [s]).length ((r.names ++ [s]).map Le);rw [List.length_append,List.map_append];exact A
  rM:=j.row h.o.rM fun q e e'=>by
   rcases e' with e' | e'
   ·have:=(h.o.rM.lt q e).1; omega
   ·exact M7 h.o.rM h.o.rN (by decide) q e e'
  rD:=j.row h.o.rD fun q e e'=>by
   rcases e' with e' | e'
   ·have:=(h.o.rD.lt q e).1; omega
   ·exact M7 h.o.rD h.o.rN (by decide) q e e'
  xl:=h.o.xl
  mo:=h.o.mo' j (fun b e=>e.elim (fun e => .inl (by omega)) fun e => .inr (.inl e)) fun q C=>by
   rcases C with e | e
   ·exact(hm.own e).imp_left .inl
   ·exact .inl (.inr e)
  ex:=fun q e=>⟨(h.o.ex q e).1,xT (h.o.ex q e).2.1 j.size,fun e'=>(hm.own e').elim (h.o.ex q e).2.2.1 fun z=>Nat.lt_irrefl _ (xT (h.o.ex q e).2.1 z),(h.o.ex q e).2.2.2⟩ }
theorem FI.pushM (h:FI rb w wr vN vM vD xs r X) {x:MV} {o:Mo} (Z:w'.heap[rb+1]?=some (I8 vN vM')) (J:w'.ownsRow (rb+2) 40 2 vM' (r.mods.length+1) (xs.flatMap Q0 ++ Q0 x)) (hm:Jt wr vM vM') (j:Z0 (rb+1) (fun b=>b=rb+1∨vM.ownBlock=some b) wr w')
  (O:Xt M4 (rb+2) (Gk vN vM vD X) wr (Q0 x) o):FI rb w w' vN vM' vD (xs ++ [x]) { r with mods:=r.mods ++ [o] } X where
 b:=h.b.trans (j.below.mono (by omega))
 res:=j.obj h.res fun e=>by
  rcases e with e | e
  ·omega
  ·have:=(h.o.rM.lt _ e).1; omega
 box:=Z
 o:=by
  have F:∀ q,Gk vN vM' vD X q->Gk vN vM vD X q∨wr.heap.size<=q:=fun q Y=>by
   rcases Y with e | e | e
   ·exact .inl (.inl e)
   ·exact(hm.own e).imp_left fun e => .inr (.inl e)
   ·exact .inl (.inr (.inr e))
  have M:∀ q,X=some q->rb+2<=q/\q<w'.heap.size/\vN.ownBlock≠some q/\vM'.ownBlock≠some q/\vD.ownBlock≠some q:=fun q e=>⟨(h.o.ex q e).1,xT (h.o.ex q e).2.1 j.size,(h.o.ex q e).2.2.1,fun e'=>(hm.own e').elim (h.o.ex q e).2.2.2.1 fun V=>Nat.lt_irrefl _ (xT (h.o.ex q e).2.1 V),(h.o.ex q e).2.2.2.2⟩
  have z:∀ b,b=rb+1∨vM.ownBlock=some b->b<rb+2∨Gk vN vM vD X b:=fun b e=>e.elim (fun e => .inl (by omega)) fun e => .inr (.inr (.inl e))
  exact {
   rN:=j.row h.o.rN fun q e e'=>by
    rcases e' with e' | e'
    ·have:=(h.o.rN.lt q e).1; omega
    ·exact M7 h.o.rN h.o.rM (by decide) q e e'
   rM:=by
    show w'.ownsRow _ _ _ _ (r.mods ++ [o]).length ((xs ++ [x]).flatMap Q0);rw [List.length_append,List.flatMap_append]
    simpa using J
   rD:=j.row h.o.rD fun q e e'=>by
    rcases e' with e' | e'
    ·have:=(h.o.rD.lt q e).1; omega
    ·exact M7 h.o.rD h.o.rM (by decide) q e e'
   xl:=by simp [h.o.xl]
   ex:=M
   mo:=fun i I h2=>by
    by_cases A:i<xs.length
    ·have C:i<r.mods.length:=by have:=h.o.xl; omega
     have:=h.o.mo' j z F i A C;show Xt M4 _ _ w' (Q0 (xs ++ [x])[i]) (r.mods ++ [o])[i];rw [List.getElem_append_left A,List.getElem_append_left C];exact this
    ·have e1:i=xs.length:=by simp at I; omega
     have N:i=r.mods.length:=by have:=h.o.xl; omega
     have:=O.chg j z F
     have T:(xs ++ [x])[i]=x:=by subst e1; simp
     have H:(r.mods ++ [o])[i]=o:=by subst N; simp
     show Xt M4 _ _ w' (Q0 (xs ++ [x])[i]) (r.mods ++ [o])[i];rw [T,H]
     exact this }
theorem FI.tell (h:FI rb w wr vN vM vD xs r X) {d:Dg} (A:w'.ownsRow (rb+2) 47 4 vD' (r.ds.length+1) (r.ds.flatMap U3 ++ U3 d)) (hm:Jt wr vD vD') (j:Z0 (rb+1) (fun b=>vD.ownBlock=some b) wr w') :
  FI rb w w' vN vM vD' xs { r with ds:=r.ds ++ [d] } X where
 b:=h.b.trans (j.below.mono (by omega))
 res:=j.obj h.res fun e=>by have:=(h.o.rD.lt _ e).1; omega
 box:=j.obj h.box fun e=>by have:=(h.o.rD.lt _ e).1; omega
 o:={
  rN:=j.row h.o.rN fun q e e'=>M7 h.o.rN h.o.rD (by decide) q e e'
  rM:=j.row h.o.rM fun q e e'=>M7 h.o.rM h.o.rD (by decide) q e e'
  rD:=by
   show w'.ownsRow _ _ _ _ (r.ds ++ [d]).length ((r.ds ++ [d]).flatMap U3);rw [List.length_append,List.flatMap_append]
   simpa using A
  xl:=h.o.xl
  mo:=h.o.mo' j (fun b e => .inr (.inr (.inr (.inl e)))) fun q C=>by
   rcases C with e | e | e | e
   ·exact .inl (.inl e)
   ·exact .inl (.inr (.inl e))
   ·exact(hm.own e).imp_left fun e => .inr (.inr (.inl e))
   ·exact .inl (.inr (.inr (.inr e)))
  ex:=fun q e=>⟨(h.o.ex q e).1,xT (h.o.ex q e).2.1 j.size,(h.o.ex q e).2.2.1,(h.o.ex q e).2.2.2.1,fun e'=>(hm.own e').elim (h.o.ex q e).2.2.2.2 fun z=>Nat.lt_irrefl _ (xT (h.o.ex q e).2.1 z)⟩ }
theorem FI.mark (h:FI rb w wr vN vM vD xs r none) (j:Below wr.heap.size wr w') {q:Nat} (h1:wr.heap.size<=q) (A:q<w'.heap.size):FI rb w w' vN vM vD xs r (some q) where
 b:=(h.below j).b
 res:=(h.below j).res
 box:=(h.below j).box
 o:={
  rN:=(h.below j).o.rN
  rM:=(h.below j).o.rM
  rD:=(h.below j).o.rD
  xl:=h.o.xl
  mo:=h.o.mo' (Z0.of (B:=0) (S:=fun _=>False) j (xZ _)) (fun _ e=>e.elim) fun p z=>by
   rcases z with e | e | e | e
   ·exact .inl (.inl e)
   ·exact .inl (.inr (.inl e))
   ·exact .inl (.inr (.inr (.inl e)))
   ·injection e with e
    exact .inr (by omega)
  ex:=fun p e=>by
   injection e with e;subst e;have:=h.lt
   exact⟨by omega,A,fun e=>by have:=(h.o.rN.lt _ e).2; omega,fun e=>by have:=(h.o.rM.lt _ e).2; omega,fun e=>by have:=(h.o.rD.lt _ e).2; omega⟩ }
theorem FI.unmark (h:FI rb w wr vN vM vD xs r X):FI rb w wr vN vM vD xs r none where
 b:=h.b
 res:=h.res
 box:=h.box
 o:={
  rN:=h.o.rN
  rM:=h.o.rM
  rD:=h.o.rD
  xl:=h.o.xl
  mo:=h.o.mo' (Z0.refl 0 (fun _=>False) wr) (fun _ e=>e.elim) fun p j=>by
   rcases j with e | e | e | e
   ·exact .inl (.inl e)
   ·exact .inl (.inr (.inl e))
   ·exact .inl (.inr (.inr (.inl e)))
   ·cases e
  ex:=fun p e=>by cases e }
theorem FI.put {q:Nat} (h:FI rb w wr vN vM vD xs r (some q)) (o:Nat) (v:vL):FI rb w (wr.setCell (aP q o) v) vN vM vD xs r (some q):=by
 have z:=h.o.ex q rfl
 have j:Z0 rb (fun b=>b=q) wr (wr.setCell (aP q o) v):=(Z0.refl rb (fun b=>b=q) wr).set (by omega) (fun _=>rfl) o v
 exact {
  b:=h.b.trans j.below
  res:=j.obj h.res (by omega)
  box:=j.obj h.box (by omega)
  o:={
   rN:=j.row h.o.rN fun p e e'=>z.2.2.1 (e' ▸ e)
   rM:=j.row h.o.rM fun p e e'=>z.2.2.2.1 (e' ▸ e)
   rD:=j.row h.o.rD fun p e e'=>z.2.2.2.2 (e' ▸ e)
   xl:=h.o.xl
   mo:=h.o.mo' j (fun b e => .inr (.inr (.inr (.inr (by rw [e]))))) fun p A => .inl A
   ex:=fun p e=>⟨(h.o.ex p e).1,xT (h.o.ex p e).2.1 j.size,(h.o.ex p e).2.2⟩ } }
end
theorem zfk {w w2:wD} {e:Ending} {X:Bs} (h:tU w Xf.val MdE (P2 X) e w2):Below w.heap.size w w2/\∃ (y:MV) (er:Int) (li co:Nat),e = .returned (.tuple #[y.val,Da li co er])/\MoV w.heap.size w2 y (L6 X) /\
  ∀ m j nm,Gj nm=true->V6 j nm=none->G2 m j nm X=if er=0 then [] else [⟨m,li,co,er⟩]:=by
 obtain⟨C,h⟩:=h
 refine⟨C,?_⟩
 cases hm:P2 X with
 | inl D =>
  rw [hm] at h;obtain⟨v,rfl,y,rfl,hv⟩:=h;refine⟨y,0,0,0,rfl,?_,fun m j nm z A=>?_⟩
  ·unfold L6
   rw [hm];exact dA hv
  ·unfold G2
   rw [z,A,hm];rfl
 | inr p =>
  obtain⟨er,li,co⟩:=p;rw [hm] at h;refine⟨Xf,er,li,co,h,?_,fun m j nm z A=>?_⟩
  ·unfold L6
   rw [hm];exact⟨rfl,rfl,xZ _,xZ _,.inl rfl,.inl rfl,rfl,rfl,xZ _,xZ _,.inl rfl,.inl rfl⟩
  ·unfold G2
   rw [z,A,hm,if_neg (qV hm).1];rfl
theorem pU {lo:Nat} {w:wD} {a:oA} {l:List Bs} (h:Tf E2 1 lo w a l):Rl w a l:=fun i j=>by
 rcases h with h | ⟨g,e,_,A,C⟩
 ·subst h
  exact absurd j (Nat.not_lt_zero _)
 ·obtain⟨c,h1,F,z⟩:=C i j
  unfold E2 at z;subst z;have:=F 0 (by omega);exact⟨g,e,Lq A,by simpa using this⟩
theorem imps_q {lo:Nat} {w:wD} {a:oA} {l:List Vx} (h:Tf ImpS 4 lo w a l):lM w a l:=fun i z=>by
 rcases h with h | ⟨g,e,_,F,A⟩
 ·subst h
  exact absurd z (Nat.not_lt_zero _)
 ·obtain⟨c,h1,j,na,nc,rfl,H,C⟩:=A i z
  exact⟨g,na,nc,e,Lq F,j 0 (by omega),j 1 (by omega),j 2 (by omega),j 3 (by omega),H,xV C (xZ _)⟩
theorem kU {lo:Nat} {w:wD} {a:oA} {l:List Tz} (h:Tf yC 15 lo w a l):Ol w a l:=fun i z=>by
 rcases h with h | ⟨g,e,_,A,C⟩
 ·subst h
  exact absurd z (Nat.not_lt_zero _)
 ·obtain⟨c,h1,j,x,rfl,h4⟩:=C i z
  exact⟨g,e,Lq A,j 0 (by omega),j 1 (by omega),j 13 (by omega),j 14 (by omega)⟩
theorem mods_q {lo:Nat} {w:wD} {a:oA} {l:List Mo} (h:Tf M4 2 lo w a l):yI w a l:=fun i j=>by
 rcases h with h | ⟨g,e,_,F,A⟩
 ·subst h
  exact absurd j (Nat.not_lt_zero _)
 ·obtain⟨c,h1,z,x,rfl,I,J,C,H,M,N,_⟩:=A i j
  have c0:=z 0 (by omega);have c1:=z 1 (by omega);rw [I] at c0 c1;rw [J] at c1;exact⟨g,x.ia,x.ic,x.da,x.dc,e,Lq F,c0,c1,C,H,imps_q M,kU N⟩
theorem FO.q {lo n m A F:Nat} {w:wD} {C j:oA} {vD:vL} {xs:List MV} {r:R1} {X:Option Nat} (h:FO lo w (.slice C n A) (.slice j m F) vD xs r X):Tf E2 1 lo w C r.names/\Tf M4 2 lo w j r.mods:=by
 have J:n=r.names.length:=by obtain⟨a,c,e⟩:=Yt h.rN; injection e
 have I:m=r.mods.length:=by obtain⟨a,c,e⟩:=Yt h.rM; injection e
 subst J I
 constructor
 ·refine uM (et:=9) (cap:=A) (n:=r.names.length) (cs:=r.names.map fun s=>[Le s]) ?_ rfl (by simp) (by simp) fun i z H=>by simp [E2]
  rw [qG];exact h.rN
 ·refine uM (et:=40) (cap:=F) (n:=r.mods.length) (cs:=xs.map Q0) ?_ rfl (by simp [h.xl]) (by simp) fun i z H=>?_
  ·rw [<- List.flatMap_def]
   exact h.rM
  ·rw [List.getElem_map]
   exact(h.mo i (by simpa using z) H).now Cn
theorem zax (a:oA) (cap:Nat) (l:List G1) (w:wD) (hs:Kz w.heap.size w a l) (hl:l.length<=1000) (hz:∀ p ∈ l,p.1.size<=140737488351232/\p.2.size<=140737488351232) :
  Calls prog 16 #[.slice a l.length cap] w fun e w'=>∃ vN vM vD xs,e = .returned (.tuple #[.agg #[vN,vM,nP,sP,iP 0,iP 0],vD])/\Below w.heap.size w w' /\
   FO (w.heap.size+2) w' vN vM vD xs (if 16<l.length then⟨[],[],[⟨16,1,1,19⟩]⟩else K9 0 (Y3 l) ⟨[],[],[]⟩) none:=by
 have HS:=Za hs
 have HZ:=Za hz
 clear hs hz
 by_cases Ja:16<l.length
 ·rw [if_pos Ja]
  have h16':(16:Int)<(l.length:Int):=by omega
  go_enter func16,ntmps16;go_wp2_with fail
  have es:((w.alloc z6).alloc z6).heap.size=w.heap.size+1+1:=by rw [xS,xS]
  have hr:=bQ (w:=(w.alloc z6).alloc z6) (B:=w.heap.size+2) (cur:=#[iP 16,iP 1,iP 1,iP 19]) (T:=47) (by omega);rw [es] at hr;have hb:Below w.heap.size w (((w.alloc z6).alloc z6).alloc (.cells #[iP 16,iP 1,iP 1,iP 19] 47)):=Zz (Zz (Zq _ _) (Zq _ _)) (Zq _ _);have h0:(((w.alloc z6).alloc z6).alloc (.cells #[iP 16,iP 1,iP 1,iP 19] 47)).heap[w.heap.size]?=some z6:=(xA (by omega)).trans ((xA (by rw [xS]; omega)).trans (xL w _))
  refine bodyPost_ret (Fp rfl _ rfl h0 underlying31 (by kernel_rfl) rfl) rfl ?_;exact⟨Dw,Dw,_,[],rfl,hb,World.ownsRow_nil _ _ _ _,World.ownsRow_nil _ _ _ _,hr,rfl,(fun _ h=>nomatch h),fun _ e=>nomatch e⟩
 ·rw [if_neg Ja]
  have h16':¬ (16:Int)<(l.length:Int):=by omega
  obtain⟨F,hF⟩:=xE (K9 0 (Y3 l) ⟨[],[],[]⟩);rw [<- hF];have HF:=Za hF;clear hF;obtain⟨i0,hi0,Ur,ha1,Us⟩:=info_parts Ix;obtain⟨i1,hi1,Wq,Zs,Z5⟩:=info_parts gW;obtain⟨i2,Pg,Pe,Ti,Qd⟩:=info_parts qK
  have hlz:((l.length:Int)<=9223372036854775807):=by omega
  go_enter func16,ntmps16;go_wp2_with fail;obtain⟨W0,Vg⟩:=xE ((w.alloc (I8 Dw Dw)).alloc (I8 Dw Dw));obtain⟨rb,Bp⟩:=xE w.heap.size
  have P7:xQ (FI rb w W0 Dw Dw Dw [] ⟨[],[],[]⟩ none):=by
   rw [Vg,Bp];exact⟨Zz (Zq _ _) (Zq _ _),(xA (by rw [xS]; omega)).trans (xL w _),Bg w _ _,World.ownsRow_nil _ _ _ _,World.ownsRow_nil _ _ _ _,World.ownsRow_nil _ _ _ _,rfl,(fun _ h=>nomatch h),fun _ e=>nomatch e⟩
  have e0:=Vg;unfold I8 at e0;rw [<- e0,<- Bp];have HR:=Za Bp;clear Vg e0 Bp
  go_loopw [5,6] (fun vD i wr=>∃ (k:Nat) (vN vM:vL) (xs:List MV) (r:R1),k<=l.length/\i=iP k/\xQ (FI rb w wr vN vM vD xs r none/\r.names.length=k/\r.mods.length=k/\r.ds.length<=k/\F=K9 k (Y3 (l.drop k)) r)) (fun _ i _=>l.length - (intOf i).toNat)
  case atStart=>exact⟨0,Dw,Dw,[],⟨[],[],[]⟩,xZ _,rfl,P7.o,rfl,rfl,xZ _,HF.o⟩
  case round =>
   clear P7 HF;obtain⟨k,vN,vM,xs,r,hk,rfl,HI⟩:=hrel;obtain⟨N,Yb,Uu,Ws,hF⟩:=HI.o;obtain⟨O,M,hv⟩:=Yt N.o.rD;subst hv
   have hn16:r.names.length<=16:=by omega
   have hm16:r.mods.length<=16:=by omega
   have hd16:r.ds.length<=16:=by omega
   have HNl:=Za Yb;have HMl:=Za Uu;clear Yb Uu;by_cases Z8:k<l.length
   ·have Un:(k:Int)<(l.length:Int):=by omega
    rcases HS.o with h | ⟨sb,so,rfl,Wx,Yn⟩
    ·rw [h] at Z8
     cases Z8
    obtain⟨Jf,Xq⟩:=Yn k Z8;have Z:xQ (F=K9 (k+1) (Y3 (l.drop (k+1))) ⟨r.names ++ [l[k].1.data.toList],r.mods ++ [L6 l[k].2.data.toList],r.ds ++ G2 k r.names l[k].1.data.toList l[k].2.data.toList⟩):=hF.trans (by rw [List.drop_eq_getElem_cons Z8]; rfl);obtain⟨Xr,Xg⟩:=HZ.o l[k] (List.getElem_mem Z8);obtain⟨Sx,hSx⟩:=xE (l[k]);rw [<- hSx] at Jf Xq Z Xr Xg;obtain⟨S,X⟩:=Sx
    have L2:sb<rb:=by have:=HR.o; omega
    have s0:wr.cell? (aP sb (so+k*2))=some (.string S):=(N.b.cell (p:=aP sb _) L2).trans Jf
    have Y5:xQ (∀ W,Below rb w W->W.cell? (aP sb (so+k*2))=some (.string S)/\W.cell? (aP sb (so+k*2+1))=some (.string X)/\sb<W.heap.size):=fun W hb=>⟨(hb.cell (p:=aP sb _) L2).trans Jf,(hb.cell (p:=aP sb _) L2).trans Xq,xT Wx hb.size⟩
    have hsw:sb<wr.heap.size:=xT Wx N.b.size;have D8:=Za N;clear N hF Jf Xq hSx Yn HI;go_wp2_with fail;refine(Lx.nameR_c S Xr _).mono ?_;rintro e w1 ⟨rfl,Zs⟩;have H:=Za (D8.o.below Zs);obtain⟨q0,q1,hsw1⟩:=Y5.o _ H.o.b;obtain⟨okb,hok⟩:=xE (Gj S.data.toList);rw [<- hok];have HOk:=Za hok;clear Zs hok s0 hsw;go_wp2_with fail;refine(zge X Xg _).mono ?_;intro e w2 Zh;obtain⟨Z5,y,er,li,co,rfl,hy,Ru⟩:=zfk Zh
    have hbq:Below w1.heap.size w1 ((w2.alloc y.obj).alloc (.cells #[iP 0,iP li,iP co,iP er] 47)):=Zz (Zz Z5 (Zq w2 y.obj)) (Zq _ _);have Jr:xQ (FI rb w ((w2.alloc y.obj).alloc (.cells #[iP 0,iP li,iP co,iP er] 47)) vN vM (.slice O r.ds.length M) xs r (some (w2.heap.size+1))):=H.o.mark hbq (by have:=Z5.size; omega) (xB (Bg w2 y.obj (.cells #[iP 0,iP li,iP co,iP er] 47)));have HY2:xQ (((w2.alloc y.obj).alloc (.cells #[iP 0,iP li,iP co,iP er] 47)).heap[w2.heap.size]?=some y.obj):=(xA (by rw [xS]; omega)).trans (xL w2 _)
    have HD2:xQ (((w2.alloc y.obj).alloc (.cells #[iP 0,iP li,iP co,iP er] 47)).heap[w2.heap.size+1]?=some (.cells #[iP 0,iP li,iP co,iP er] 47)):=Bg _ _ _
    have HM2:xQ (Xt M4 (rb+2) (Gk vN vM (.slice O r.ds.length M) (some (w2.heap.size+1))) ((w2.alloc y.obj).alloc (.cells #[iP 0,iP li,iP co,iP er] 47)) (Q0 y) (L6 X.data.toList)):=(Xt.new (rep:=M4) (G:=Gk vN vM (.slice O r.ds.length M) none) (wx:=w2) ⟨y,rfl,hy⟩ H.o.lt (fun q hq=>(H.o.o.apart hq).2)).chg (Z0.of (B:=0) (S:=fun _=>False) (Zz (Zq w2 y.obj) (Zq _ _)) (xZ _)) (fun _ e=>e.elim) fun q hq=>by
     rcases hq with e | e | e | e
     ·exact .inl (.inl e)
     ·exact .inl (.inr (.inl e))
     ·exact .inl (.inr (.inr (.inl e)))
     ·injection e with e
      exact .inr (by omega)
    have Hn:xQ (∀ q,Gk vN vM (.slice O r.ds.length M) none q->q<w2.heap.size):=fun q hq=>xT (H.o.o.apart hq).2 Z5.size
    have hyr:rb+2<=w2.heap.size:=Nat.le_trans H.o.lt Z5.size;have HBad:=Za Ru;clear Z5 hbq hy Zh Ru q0 q1 hsw1 H D8;go_wp2_with fail;generalize (w2.alloc y.obj).alloc (.cells #[iP 0,iP li,iP co,iP er] 47)=W5 at Jr HY2 HD2 HM2 ⊢;obtain⟨J,hyb⟩:=xE w2.heap.size;rw [<- hyb] at Jr HM2 HY2 HD2 Hn hyr ⊢;clear hyb;obtain⟨aN,Y,rfl⟩:=Yt Jr.o.o.rN;obtain⟨aM,cM,rfl⟩:=Yt Jr.o.o.rM
    obtain⟨p0,_⟩:=(Pc Jr.o.box).1;obtain⟨s0,s1,hsw⟩:=Y5.o _ Jr.o.b;have Xe:rb+1<W5.heap.size:=Jr.o.lt;obtain⟨R,hR⟩:=xE (V6 r.names S.data.toList)
    have HC:xQ (∀ n,Calls prog 19 #[.slice aN r.names.length Y,.string S] (W5.drewN n) fun e w'=>e = .returned (iP (B9 R))/\w'=W5.drewN n):=fun n=>by
     have h:=uF aN Y r.names S (W5.drewN n) ((pU Jr.o.o.q.1).below (yP (Below.refl _ _) n)) (by omega);rw [<- hR] at h;exact h
    have V8:=Za hR;clear hR s1
    go_quiet((go_at_call 19; exact Calls.quiet_of_same (HC.o _)))
    go_wp2_with fail;have V:=Za (Jr.o.below (yP (Below.refl W5.heap.size W5) nq));have HY6:xQ ((W5.drewN nq).heap[J]?=some y.obj):=HY2.o;have HD6:xQ ((W5.drewN nq).heap[J+1]?=some (.cells #[iP 0,iP li,iP co,iP er] 47)):=HD2.o
    have HM6:xQ (Xt M4 (rb+2) (Gk (.slice aN r.names.length Y) (.slice aM r.mods.length cM) (.slice O r.ds.length M) (some (J+1))) (W5.drewN nq) (Q0 y) (L6 X.data.toList)):=HM2.o.chg (Z0.of (B:=0) (S:=fun _=>False) (yP (Below.refl W5.heap.size W5) nq) (xZ _)) (fun _ e=>e.elim) fun q hq => .inl hq
    clear Jr HY2 HD2 HM2 HC p0 s0 hsw Xe;generalize W5.drewN nq=W6 at V HY6 HD6 HM6 ⊢;obtain⟨p0,_⟩:=(Pc (W:=W6.drew) V.o.box).1;have f0:=(Pc (W:=W6.drew) V.o.box).2.1 0;have Xe:rb+1<W6.drew.heap.size:=V.o.lt;obtain⟨s0,_,hsw⟩:=Y5.o W6 V.o.b;have s0d:W6.drew.cell? (aP sb (so+k*2))=some (.string S):=s0;have p0w:W6.cell? (aP (rb+1) 0)=some (.slice aN r.names.length Y):=p0
    have hrw:rb+1<W6.heap.size:=Xe;have Gg:rb+2<=W6.heap.size:=V.o.lt;have RN6:xQ (W6.drew.ownsRow (rb+2) 9 1 (.slice aN r.names.length Y) r.names.length (r.names.map Le)):=V.o.o.rN
    apply n9 (fun p n z=>xQ (z.ownsRow (rb+2) 9 1 (.slice p (r.names.length+1) n) (r.names.length+1) (r.names.map Le ++ [.string S]))/\xQ ((W6.drew.alloc (.cells #[.string S] 9)).grownBy z (Value.slice aN r.names.length Y).ownBlock)/\xQ ((Value.slice p (r.names.length+1) n).ownBlock=(Value.slice aN r.names.length Y).ownBlock∨(Value.slice p (r.names.length+1) n).ownBlock=some (W6.drew.alloc (.cells #[.string S] 9)).heap.size)) (fun p n z=>z.setCell (aP (rb+1) 0) (.slice p (r.names.length+1) n))
    ·go_region_law(refine El rfl (.tmp 48) (.tmp 54) 25 rfl (rb+2) 9 i0 _ 1 16 underlying25 hi0 Ur ha1 Us rfl (by decide) _ _ _ (by first | rfl | simp [Act.eval,Act.put]) (RN6.o.alloc _) (aP W6.heap.size 0) 1 1 [.string S] (by first | rfl | simp [Act.eval,Act.put]) rfl (V2 _ _ _) (by simp [Value.oneCell']) (by unfold maxLen; omega) (by omega) (by show rb+2<=(W6.alloc _).heap.size; rw [xS]; omega) ?_; intro v' w6 Zr Zo Z4; obtain⟨aN',cN',rfl⟩:=Yt Zr; have Hm:=Za Zr; have Kt:=Za Zo; have HL6:=Za Z4; have HK6:=Za (zC (W:=W6.drew) V.o.box RN6.o (xU _) Zo); obtain⟨⟨b0,_⟩,g0,hk6⟩:=Pc HK6.o; clear Zr Zo Z4)
     all_goals exact⟨aN',cN',w6,⟨Hm.o,Kt.o,HL6.o⟩,rfl,rfl⟩
    ·rintro aN' cN' w6 ⟨Hm,Kt,HL6⟩
     have Tl:=Jy (W:=W6.drew) 0 (.slice aN' (r.names.length+1) cN') V.o.box RN6.o (xU _) Gg Kt.o
     have hSe:Le S.data.toList = .string S:=by simp [Le]
     have Tp:=Za ((V.o.below (Below.refl _ W6).drew).pushN (s:=S.data.toList) (by simpa using Tl.1) (by rw [hSe]; exact ownsRow_setCell_below Hm.o (a:=(aP (rb+1) 0)) (xU _) _) (xP HL6.o) Tl.2)
     have yZ:∀ q,Gk (.slice aN' (r.names.length+1) cN') (.slice aM r.mods.length cM) (.slice O r.ds.length M) (some (J+1)) q->Gk (.slice aN r.names.length Y) (.slice aM r.mods.length cM) (.slice O r.ds.length M) (some (J+1)) q∨W6.heap.size<=q:=fun q hq=>by
      rcases hq with e | e
      ·exact((xP (W:=W6.drew) HL6.o).own e).imp_left .inl
      ·exact .inl (.inr e)
     have HM7:xQ (Xt M4 (rb+2) (Gk (.slice aN' (r.names.length+1) cN') (.slice aM r.mods.length cM) (.slice O r.ds.length M) (some (J+1))) (w6.setCell (aP (rb+1) 0) (.slice aN' (r.names.length+1) cN')) (Q0 y) (L6 X.data.toList)) :=
      (HM6.o.chg (Z0.refl 0 (fun _=>False) W6).drew (fun _ e=>e.elim) fun q hq => .inl hq).chg Tl.2 (fun b e=>e.elim (fun e => .inl (by omega)) fun e => .inr (.inl e)) yZ
     have HY7:xQ ((w6.setCell (aP (rb+1) 0) (.slice aN' (r.names.length+1) cN')).heap[J]?=some y.obj):=Tl.2.obj (show W6.drew.heap[J]?=some y.obj from HY6.o) fun e=>e.elim (fun e=>by omega) fun e=>by have:=Hn.o J (.inl e); omega
     have HD7:xQ ((w6.setCell (aP (rb+1) 0) (.slice aN' (r.names.length+1) cN')).heap[J+1]?=some (.cells #[iP 0,iP li,iP co,iP er] 47)):=Tl.2.obj (show W6.drew.heap[J+1]?=_ from HD6.o) fun e=>e.elim (fun e=>by omega) fun e=>(V.o.o.ex _ rfl).2.2.1 e
     clear Tl hSe Hm Kt HL6 HM6 V HY6 HD6 RN6 yZ Hn p0 f0 s0 s0d p0w hrw Xe hsw Gg;generalize w6.setCell (aP (rb+1) 0) (.slice aN' (r.names.length+1) cN')=W7 at Tp HM7 HY7 HD7 ⊢;have p1:=(Pc Tp.o.box).1.2.1;obtain⟨⟨y0,y1⟩,_,Ab⟩:=Nd HY7.o;have Xe:rb+1<W7.heap.size:=Tp.o.lt
     go_wp2_with(at_builtin; refine wpList_append_own_at _ rfl (.tmp 58) (.tmp 60) 26 rfl (rb+2) 40 i1 _ 2 48 underlying26 hi1 Wq Zs Z5 rfl (by decide) _ _ _ rfl (Tp.o.o.rM.alloc _) (aP _ 0) 1 1 [.slice y.ia y.il y.ic,.slice y.da y.dl y.dc] rfl rfl (V2 _ _ _) (by simp [Value.oneCell']) (by show r.mods.length+1<=maxLen; unfold maxLen; omega) (by show(r.mods.length+1)*48<=_; omega) (by rw [xS]; omega) ?_)
     intro v' w8 Zr Zo hnn Z4;obtain⟨aM',cM',rfl⟩:=Yt Zr
     rename_i K1 hK1
     have Pn:=Za hK1;have Tl:=Jy (W:=W7) 1 (.slice aM' (r.mods.length+1) cM') Tp.o.box Tp.o.o.rM (xU _) Xe Zo;have C:xQ (FI rb w (w8.setCell (aP (rb+1) 1) (.slice aM' (r.mods.length+1) cM')) (.slice aN' (r.names.length+1) cN') (.slice aM' (r.mods.length+1) cM') (.slice O r.ds.length M) (xs ++ [y]) ⟨r.names ++ [S.data.toList],r.mods ++ [L6 X.data.toList],r.ds⟩ (some (J+1))):=Tp.o.pushM (x:=y) (o:=L6 X.data.toList) (by simpa using Tl.1) (ownsRow_setCell_below Zr (a:=(aP (rb+1) 1)) (xU _) _) (Z4.imp_right fun e=>⟨_,e,by omega⟩) Tl.2 HM7.o
     have HD9:xQ ((w8.setCell (aP (rb+1) 1) (.slice aM' (r.mods.length+1) cM')).heap[J+1]?=some (.cells #[iP 0,iP li,iP co,iP er] 47)):=Tl.2.obj HD7.o fun e=>e.elim (fun e=>by omega) fun e=>(Tp.o.o.ex _ rfl).2.2.2.1 e
     have HK8:=Za (zC (W:=W7) Tp.o.box Tp.o.o.rM (xU _) Zo)
     obtain⟨b1,g1,hk8⟩:w8.cell? (aP (rb+1) 1)=some (.slice aM r.mods.length cM)/\w8.frozen? (aP (rb+1) 1)=false/\rb+1<w8.heap.size:=⟨(Pc HK8.o).1.2.1,(Pc HK8.o).2.1 1,(Pc HK8.o).2.2⟩
     clear hK1 hnn Zr Zo Z4 Tl Tp HM7 HY7 HD7 HK8 p1 y0 y1 Ab Xe;go_wp2_with fail;generalize w8.setCell (aP (rb+1) 1) (.slice aM' (r.mods.length+1) cM')=W9 at C HD9 ⊢;refine Pn.o _ _ ?_;have hl9:rb+2<=W9.heap.size:=C.o.lt
     have HE9:xQ (∀ (d:Dg) (v':vL) (w':wD) (c:Array vL),W9.heap.size<=w'.heap.size->w'.ownsRow (rb+2) 47 4 v' (r.ds.length+1) (r.ds.flatMap U3 ++ U3 d)->(W9.alloc (.cells c 47)).grownBy w' (Value.slice O r.ds.length M).ownBlock->(v'.ownBlock=(Value.slice O r.ds.length M).ownBlock∨v'.ownBlock=some (W9.heap.size+1))->FI rb w w' (.slice aN' (r.names.length+1) cN') (.slice aM' (r.mods.length+1) cM') v' (xs ++ [y]) ⟨r.names ++ [S.data.toList],r.mods ++ [L6 X.data.toList],r.ds ++ [d]⟩ none):=fun d v' w' c _ ho hg hl =>
      FI.unmark <| C.o.tell ho (hl.imp_right fun e=>⟨_,e,by omega⟩) (((Z0.refl (rb+1) (fun b=>(Value.slice O r.ds.length M).ownBlock=some b) W9).alloc (by omega) _).grown hg (by rw [xS]; omega) fun q e=>⟨by have:=(C.o.o.rD.lt q e).1; omega,fun _=>e⟩)
     have hN2:(r.names ++ [S.data.toList]).length=k+1:=by rw [List.length_append,HNl.o]; rfl
     have hM2:(r.mods ++ [L6 X.data.toList]).length=k+1:=by rw [List.length_append,HMl.o]; rfl
     have Ui:=Za (And.intro hN2 hM2);clear hN2 hM2 Pn b1 g1 hk8
     cases okb with
     | false =>
      have I:xQ (F=K9 (k+1) (Y3 (l.drop (k+1))) ⟨r.names ++ [S.data.toList],r.mods ++ [L6 X.data.toList],r.ds ++ [⟨k,1,1,10⟩]⟩):=by
       have h:=Z.o
       have e:G2 k r.names S.data.toList X.data.toList=[⟨k,1,1,10⟩]:=by unfold G2; rw [if_pos HOk.o.symm]
       rw [e] at h;exact h
      go_wp2_with(at_builtin; refine wpList_append_own_at _ rfl (.tmp 66) (.tmp 69) 32 rfl (rb+2) 47 i2 _ 4 32 underlying32 Pg Pe Ti Qd rfl (by decide) _ _ _ rfl (C.o.o.rD.alloc _) (aP _ 0) 1 1 [iP k,iP 1,iP 1,iP 10] rfl rfl (V2 _ _ _) (by simp [Value.oneCell']) (by show r.ds.length+1<=maxLen; unfold maxLen; omega) (by show(r.ds.length+1)*32<=_; omega) (by rw [xS]; omega) ?_)
      intro v' w10 Zr Zo hnn Z4;have HX:=Za (HE9.o ⟨k,1,1,10⟩ v' w10 _ (by have:=Zo.size; rw [xS] at this; omega) Zr Zo Z4);clear Zr Zo Z4 hnn;go_wp2_with fail;exact⟨⟨k+1,_,_,_,_,by omega,by go_num,HX.o,Ui.o.1,Ui.o.2,by rw [List.length_append]; show r.ds.length+1<=_; omega,I.o⟩,by simp [intOf]; omega⟩
     | true =>
      cases R with
      | some j =>
       have hj:(0:Int)<=(j:Int):=by omega
       have I:xQ (F=K9 (k+1) (Y3 (l.drop (k+1))) ⟨r.names ++ [S.data.toList],r.mods ++ [L6 X.data.toList],r.ds ++ [⟨k,1,1,8⟩]⟩):=by
        have h:=Z.o
        have e:G2 k r.names S.data.toList X.data.toList=[⟨k,1,1,8⟩]:=by unfold G2; rw [if_neg (by rw [<- HOk.o]; decide),<- V8.o]
        rw [e] at h;exact h
       rw [show B9 (some j)=(j:Int) from rfl]
       go_wp2_with(at_builtin; refine wpList_append_own_at _ rfl (.tmp 74) (.tmp 77) 32 rfl (rb+2) 47 i2 _ 4 32 underlying32 Pg Pe Ti Qd rfl (by decide) _ _ _ rfl (C.o.o.rD.alloc _) (aP _ 0) 1 1 [iP k,iP 1,iP 1,iP 8] rfl rfl (V2 _ _ _) (by simp [Value.oneCell']) (by show r.ds.length+1<=maxLen; unfold maxLen; omega) (by show(r.ds.length+1)*32<=_; omega) (by rw [xS]; omega) ?_)
       intro v' w10 Zr Zo hnn Z4;have HX:=Za (HE9.o ⟨k,1,1,8⟩ v' w10 _ (by have:=Zo.size; rw [xS] at this; omega) Zr Zo Z4);clear Zr Zo Z4 hnn;go_wp2_with fail;exact⟨⟨k+1,_,_,_,_,by omega,by go_num,HX.o,Ui.o.1,Ui.o.2,by rw [List.length_append]; show r.ds.length+1<=_; omega,I.o⟩,by simp [intOf]; omega⟩
      | none =>
       have HBk:=Za (HBad.o k r.names S.data.toList HOk.o.symm V8.o.symm);rw [show B9 none=(-1:Int) from rfl];obtain⟨⟨d0,d1,d2,d3⟩,hdf,hdl9⟩:=Yh HD9.o;by_cases her:er=0
       ·have I:xQ (F=K9 (k+1) (Y3 (l.drop (k+1))) ⟨r.names ++ [S.data.toList],r.mods ++ [L6 X.data.toList],r.ds⟩):=by
         have h:=Z.o
         have e:G2 k r.names S.data.toList X.data.toList=[]:=by rw [HBk.o,if_pos her]
         rw [e,List.append_nil] at h;exact h
        subst her;go_wp2_with fail;exact⟨⟨k+1,_,_,_,_,by omega,by go_num,C.o.unmark,Ui.o.1,Ui.o.2,by show r.ds.length<=_; omega,I.o⟩,by simp [intOf]; omega⟩
       ·have her':(er != 0)=true:=by simpa using her
        have I:xQ (F=K9 (k+1) (Y3 (l.drop (k+1))) ⟨r.names ++ [S.data.toList],r.mods ++ [L6 X.data.toList],r.ds ++ [⟨k,li,co,er⟩]⟩):=by
         have h:=Z.o
         have e:G2 k r.names S.data.toList X.data.toList=[⟨k,li,co,er⟩]:=by rw [HBk.o,if_neg her]
         rw [e] at h;exact h
        obtain⟨W10,Io⟩:=xE (W9.setCell (aP (J+1) 0) (iP k));have A:=Za (C.o.put 0 (iP k));rw [<- Io] at A
        have hs10:W10.heap.size=W9.heap.size:=by rw [Io]; simp
        have Uh:xQ (∀ j u,[iP k,iP li,iP co,iP er][j]?=some u->(W10.alloc (.cells #[iP k,iP li,iP co,iP er] 47)).cell? ((aP W9.heap.size 0).add j)=some u):=by
         have:=V2 W10 [iP k,iP li,iP co,iP er] 47;rw [hs10] at this;exact this
        have hl10:rb+2<=W10.heap.size:=A.o.lt;have HW10:=Za Io;have HS10:=Za hs10;clear Io hs10 HE9
        go_wp2_with(at_builtin; rw [<- HW10.o]; refine wpList_append_own_at _ rfl (.tmp 85) (.tmp 87) 32 rfl (rb+2) 47 i2 _ 4 32 underlying32 Pg Pe Ti Qd rfl (by decide) _ _ _ rfl (A.o.o.rD.alloc _) (aP _ 0) 1 1 [iP k,iP li,iP co,iP er] rfl rfl Uh.o (by simp [Value.oneCell']) (by show r.ds.length+1<=maxLen; unfold maxLen; omega) (by show(r.ds.length+1)*32<=_; omega) (by rw [xS]; omega) ?_)
        intro v' w11 Zr Zo hnn Z4;have HX:=Za (FI.unmark <| A.o.tell (d:=⟨k,li,co,er⟩) Zr (Z4.imp_right fun e=>⟨_,e,by first | omega | (rw [xS]; omega)⟩) (((Z0.refl (rb+1) (fun b=>(Value.slice O r.ds.length M).ownBlock=some b) W10).alloc (by omega) _).grown Zo (by rw [xS]; omega) fun q e=>⟨by have:=(A.o.o.rD.lt q e).1; omega,fun _=>e⟩));clear Zr Zo Z4 hnn;go_wp2_with fail
        exact⟨⟨k+1,_,_,_,_,by omega,by go_num,HX.o,Ui.o.1,Ui.o.2,by rw [List.length_append]; show r.ds.length+1<=_; omega,I.o⟩,by simp [intOf]; omega⟩
   ·have Un:¬ (k:Int)<(l.length:Int):=by omega
    have De:F=r:=hF.trans (by rw [List.drop_eq_nil_of_le (by omega)]; rfl);obtain⟨aN,Y,hv⟩:=Yt N.o.rN;obtain⟨aM,cM,hv2⟩:=Yt N.o.rM;subst De hv hv2;obtain⟨⟨p0,p1,p2,p3,p4,p5⟩,_,Xz⟩:=Pc N.box;obtain⟨⟨q0,q1,q2,q3,q4,q5⟩,qf,Uo⟩:=Pc N.res;have f0:=qf 0;have f1:=qf 1;have f2:=qf 2;have f3:=qf 3;have f4:=qf 4;have f5:=qf 5;obtain⟨Wf,Zm⟩:=xE (P3 wr rb (.slice aN F.names.length Y) (.slice aM F.mods.length cM) nP sP (iP 0) (iP 0))
    have HO:xQ (Wf.heap[rb]?=some (I8 (.slice aN F.names.length Y) (.slice aM F.mods.length cM))):=by rw [Zm]; exact Cq N.res _ _ _ _ _ _
    have hcf:Z0 rb (fun b=>b=rb) wr Wf:=by rw [Zm]; exact Oa _ _ _ _ _ _ _ _
    have HB:xQ (Below rb w Wf):=N.b.trans hcf.below;have F1:=Za (N.o.keep hcf fun b e=>by omega);have Qv:=Za Zm;clear Zm hcf N qf HI HNl HMl hF;go_wp2_with fail;have e0:=Qv.o;unfold P3 at e0;rw [<- e0];clear e0;refine bodyPost_ret (Fp rfl _ rfl (show Wf.heap[rb]?=_ from HO.o) underlying31 (by kernel_rfl) rfl) rfl ?_;refine⟨_,_,_,rfl,?_,xs,?_⟩
    ·rw [<- HR.o]
     exact HB.o
    ·rw [<- HR.o]
     exact F1.o
end
end Go.Proofs.YtoppemkjhhlegaaGreatDoor
