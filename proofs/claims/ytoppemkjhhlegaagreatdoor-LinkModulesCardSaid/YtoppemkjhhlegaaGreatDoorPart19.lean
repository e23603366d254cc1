/- Part. -/
import Derived.Laws.AppendOwnNone
import Derived.Test.YtoppemkjhhlegaaGreatDoorPart18
set_option maxRecDepth 100000
set_option maxHeartbeats 4000000
namespace Go.Proofs.YtoppemkjhhlegaaGreatDoor
open Go.Proofs.Tryz
open Go.RowKit Go.Maps
def Ad (md:Bs->Option Nat) (mods:List Mo) (m:Nat):List Vx->Sc->Sc
 | [],s=>s
 | I :: l,s=>Ad md mods m l ((Jg md mods m I s.1).1,s.2 ++ (Jg md mods m I s.1).2)
def Fr (md:Bs->Option Nat) (mods:List Mo):Nat->List Mo->List (List En)->List Dg->List (List En)×List Dg
 | _,[],ess,ds=>(ess,ds)
 | m,o :: r,ess,ds=>Fr md mods (m+1) r (ess ++ [(Qx m 0 o.ds (Ad md mods m o.is ([],ds))).1]) (Qx m 0 o.ds (Ad md mods m o.is ([],ds))).2
theorem gP {num:Wo} {mods:List Mo} {m:Nat}:∀ (l:List Vx) (s:Sc),Ad (Yp num) mods m l s=Ae num mods m l s
 | [],_=>rfl
 | I :: l,s=>by
  unfold Ad Ae;rw [zbw,gP l _,<- zbu num mods m I s.1 s.2]
theorem aV {num:Wo} {mods:List Mo}:∀ (l:List Mo) (m:Nat) (ess:List (List En)) (ds:List Dg),Fr (Yp num) mods m l ess ds=Pk num mods m l ess ds
 | [],_,_,_=>rfl
 | o :: l,m,ess,ds=>by
  unfold Fr Pk zU;rw [gP,aV l _ _ _]
theorem zbv (md:Bs->Option Nat) (mods:List Mo) (m:Nat) (I:Vx) (es:List En) (h:I.ns.length<=8193):(Jg md mods m I es).1.length<=es.length+8193/\(Jg md mods m I es).2.length<=8193:=by
 unfold Jg
 cases md I.fr with
 | none=>exact⟨by show es.length<=_; omega,by show 1<=_; omega⟩
 | some f =>
  have:=qW (mods.getD f Jh) f m I.li I.co I.ns (es,[]);simp only [List.length_nil] at this;exact⟨by simp only; omega,by simp only; omega⟩
theorem zlh {P:Program} (w:wD) {ops:Array Oper} {H:List Oper} {o:Oper} {a:Act} {Q:Exit->Act->wD->Prop} (Mv:o.guard=none) (s x:Operand) (t:TypeId)
  (ho:o.op = .call { callee := .builtin .append,args:=#[s,x],argTypes:=#[t,t] })
  (C:Nat) (e:TypeId) (i:TypeInfo) (z:vL) (size F:Nat) (ht:P.underlying t=some (.slice e)) (hi:P.info? e=some i) (hz:i.zero=some z)
  (M:i.size=size) (hby:i.bytes=F) (Y:z.cells.size=size) (Z:0<size)
  (v:vL) (n:Nat) (xs:List vL) (hs:a.eval s=v) (T:w.ownsRow C e size v n xs)
  (O:oA) (m c:Nat) (A:List vL) (hx:a.eval x = .slice O m c) (hl:A.length=m*size) (J:O=none->m=0/\c=0) (N:∀ ad,O=some ad->∀ j u,A[j]?=some u->w.cell? (ad.add j)=some u) (h1:∀ u ∈ A,u.oneCell'=true)
  (V:n+m<=maxLen) (m8:(n+m)*F<=140737488355328) (I:C<=w.heap.size)
  (h:∀ v' w',w'.ownsRow C e size v' (n+m) (xs ++ A)->w.grownBy w' v.ownBlock->wpList P ops Q H (a.put o.dst v') w'):wpList P ops Q (o :: H) a w:=by
 cases O with
 | some ad=>exact wpList_append_own w Mv s x t ho C e i z size F ht hi hz M hby Y Z v n xs hs T ad m c A hx hl (N ad rfl) h1 V m8 I (fun v' w' h2 h3 _=>h v' w' h2 h3)
 | none =>
  obtain⟨rfl,rfl⟩:=J rfl;obtain rfl:A=[]:=List.eq_nil_of_length_eq_zero (by omega);refine wpList_append_own_none Mv s x t ho C e i size ht hi v n xs hs T hx (h v w ?_ (World.grownBy.refl _ _))
  simpa using T
theorem aH {w:wD} {B e k n c:Nat} {a:oA} {xs:List vL} (h:w.ownsRow B e k (.slice a n c) n xs):(a=none->n=0/\c=0)/\∀ A,a=some A->∀ j u,xs[j]?=some u->w.cell? (A.add j)=some u:=by
 have C:=h
 rcases h.2 with⟨z,I⟩ | ⟨g,cap,cur,z,hg,hb,_⟩
 ·injection z with z e2 e3
  subst z e3;exact⟨fun _=>⟨I,rfl⟩,fun A e=>by cases e⟩
 ·injection z with z _ _
  subst z;refine⟨fun e=>(by cases e),fun A e j u F=>?_⟩;injection e with e;subst e
  have J:(aP g 0).add j=(aP g j):=by unfold Addr.add; split <;> simp_all
  rw [J]
  have H:j<n*k:=by
   rw [<- C.1];exact(List.getElem?_eq_some_iff.1 F).1
  rw [C.cellAt j H,F]
theorem dg_one (ds:List Dg):∀ u ∈ ds.flatMap U3,u.oneCell'=true:=fun u j=>by
 obtain⟨d,_,h⟩:=List.mem_flatMap.1 j
 simp only [U3,List.mem_cons,List.mem_nil_iff,or_false] at h
 rcases h with rfl | rfl | rfl | rfl <;> rfl
theorem dg_len (ds:List Dg):(ds.flatMap U3).length=ds.length*4:=by
 induction ds with
 | nil=>rfl
 | cons d l ih=>simp only [List.flatMap_cons,List.length_append,ih,List.length_cons,List.length_nil]; omega
structure B6 (pb mb:Nat) (w wq:wD) (P:Obj) (cm:Array vL) (vA vE vD:vL) (vs:List vL) (ess:List (List En)) (es:List En) (ds:List Dg):Prop where
 b:Below pb w wq
 p:wq.heap[pb]?=some P
 m:wq.heap[mb]?=some (.cells cm 40)
 hm:pb<mb
 ln:vs.length=ess.length
 rA:wq.ownsRow (pb+1) 42 1 vA vs.length vs
 rs:∀ i (h1:i<vs.length) (h2:i<ess.length),wq.ownsRow (pb+1) 29 3 vs[i] ess[i].length (ess[i].flatMap Qa)/\∀ q,vs[i].ownBlock=some q->q<mb
 rE:wq.ownsRow (mb+1) 29 3 vE es.length (es.flatMap Qa)
 rD:wq.ownsRow (pb+1) 47 4 vD ds.length (ds.flatMap U3)
section
variable {pb mb : Nat} {w wq w' : wD} {P : Obj} {cm : Array vL} {vA vE vD vE' vD' : vL} {vs : List vL} {ess : List (List En)} {es es' : List En} {ds ds' : List Dg}
theorem B6.below (h:B6 pb mb w wq P cm vA vE vD vs ess es ds) (j:Below wq.heap.size wq w'):B6 pb mb w w' P cm vA vE vD vs ess es ds where
 b:=h.b.trans (j.mono (Nat.le_of_lt (xB h.p)))
 p:=(j.block _ (xB h.p)).trans h.p
 m:=(j.block _ (xB h.m)).trans h.m
 hm:=h.hm
 ln:=h.ln
 rA:=J8 h.rA j
 rs:=fun i z A=>⟨J8 (h.rs i z A).1 j,(h.rs i z A).2⟩
 rE:=J8 h.rE j
 rD:=J8 h.rD j
theorem B6.nob (h:B6 pb mb w wq P cm vA vE vD vs ess es ds) {b1 z C n1:Nat} {A:vL} {I:List vL} (F:wq.ownsRow b1 z C A n1 I) (H:z≠40):A.ownBlock≠some mb:=fun e=>by
 obtain⟨cur,j⟩:=Jl F e
 rw [h.m] at j
 injection j with j
 injection j with _ j
 exact H j.symm
theorem B6.scope (h:B6 pb mb w wq P cm vA vE vD vs ess es ds) (j:Z0 (mb+1) (fun b=>vE.ownBlock=some b) wq w') (C:w'.ownsRow (mb+1) 29 3 vE' es'.length (es'.flatMap Qa)):B6 pb mb w w' P cm vA vE' vD vs ess es' ds where
 b:=h.b.trans (j.below.mono (by have:=h.hm; omega))
 p:=j.obj h.p fun e=>by have:=(h.rE.lt _ e).1; have:=h.hm; omega
 m:=j.obj h.m fun e=>by have:=(h.rE.lt _ e).1; omega
 hm:=h.hm
 ln:=h.ln
 rA:=j.row h.rA fun q e e'=>M7 h.rA h.rE (by decide) q e e'
 rs:=fun i z A=>⟨j.row (h.rs i z A).1 fun q e e'=>by have:=(h.rs i z A).2 q e; have:=(h.rE.lt _ e').1; omega,(h.rs i z A).2⟩
 rE:=C
 rD:=j.row h.rD fun q e e'=>M7 h.rD h.rE (by decide) q e e'
theorem B6.tell (h:B6 pb mb w wq P cm vA vE vD vs ess es ds) (j:Z0 (pb+1) (fun b=>vD.ownBlock=some b) wq w') (C:w'.ownsRow (pb+1) 47 4 vD' ds'.length (ds'.flatMap U3)):B6 pb mb w w' P cm vA vE vD' vs ess es ds' where
 b:=h.b.trans (j.below.mono (by omega))
 p:=j.obj h.p fun e=>by have:=(h.rD.lt _ e).1; omega
 m:=j.obj h.m fun e=>h.nob h.rD (by decide) e
 hm:=h.hm
 ln:=h.ln
 rA:=j.row h.rA fun q e e'=>M7 h.rA h.rD (by decide) q e e'
 rs:=fun i z A=>⟨j.row (h.rs i z A).1 fun q e e'=>M7 (h.rs i z A).1 h.rD (by decide) q e e',(h.rs i z A).2⟩
 rE:=j.row h.rE fun q e e'=>M7 h.rE h.rD (by decide) q e e'
 rD:=C
end
structure vI (pb:Nat) (w wr:wD) (P:Obj) (vA vD:vL) (vs:List vL) (ess:List (List En)) (ds:List Dg):Prop where
 b:Below pb w wr
 p:wr.heap[pb]?=some P
 ln:vs.length=ess.length
 rA:wr.ownsRow (pb+1) 42 1 vA vs.length vs
 rs:∀ i (h1:i<vs.length) (h2:i<ess.length),wr.ownsRow (pb+1) 29 3 vs[i] ess[i].length (ess[i].flatMap Qa)
 rD:wr.ownsRow (pb+1) 47 4 vD ds.length (ds.flatMap U3)
theorem B6.push {pb mb:Nat} {w wq w':wD} {P:Obj} {cm:Array vL} {vA vE vD j:vL} {vs:List vL} {ess:List (List En)} {es:List En} {ds:List Dg} (h:B6 pb mb w wq P cm vA vE vD vs ess es ds) (z:Z0 (pb+1) (fun b=>vA.ownBlock=some b) wq w') (F:w'.ownsRow (pb+1) 42 1 j (vs.length+1) (vs ++ [vE])):vI pb w w' P j vD (vs ++ [vE]) (ess ++ [es]) ds where
 b:=h.b.trans (z.below.mono (by omega))
 p:=z.obj h.p fun e=>by have:=(h.rA.lt _ e).1; omega
 ln:=by rw [List.length_append,List.length_append,h.ln]; rfl
 rA:=by rw [List.length_append]; exact F
 rs:=fun i C h2=>by
  have I:=h.ln;by_cases A:i<vs.length
  ·rw [List.getElem_append_left A,List.getElem_append_left (by omega)]
   exact z.row (h.rs i A (by omega)).1 fun q e e'=>M7 (h.rs i A (by omega)).1 h.rA (by decide) q e e'
  ·have H:i=vs.length:=by rw [List.length_append] at C; simp only [List.length_cons,List.length_nil] at C; omega
   subst H;rw [List.getElem_append_right (xR),List.getElem_append_right (by omega)];simp only [Nat.sub_self,<- I,List.getElem_cons_zero];exact bP (z.row h.rE fun q e e'=>M7 h.rE h.rA (by decide) q e e') (by have:=h.hm; omega)
 rD:=z.row h.rD fun q e e'=>M7 h.rD h.rA (by decide) q e e'
theorem zic (T:oA) (Y:Nat) (aM:oA) (V:Nat) (aS:oA) (nS cS:Nat) (M:bA) (x y:Int) (z:List Bs) (mods:List Mo) (w:wD)
  (hN:Rl w T z) (hM:yI w aM mods) (hl:z.length=mods.length) (hm:mods.length<=16) :
  Calls prog 17 #[.agg #[.slice T z.length Y,.slice aM mods.length V,.slice aS nS cS,.string M,iP x,iP y]] w fun e w' =>
   ∃ vA vD vs,e = .returned (.tuple #[vA,vD])/\vI w.heap.size w w' (Ux T z.length Y aM mods.length V aS nS cS M x y) vA vD vs (Fr (V6 z) mods 0 mods [] []).1 (Fr (V6 z) mods 0 mods [] []).2:=by
 have HN:=Za hN
 have HM:=Za hM
 have HL:=Za hl
 obtain⟨md,Nq⟩:=xE (V6 z)
 rw [<- Nq]
 have Uj:=Za Nq
 obtain⟨F,hF⟩:=xE (Fr md mods 0 mods [] [])
 rw [<- hF]
 have HF:=Za hF
 obtain⟨i0,hi,Xr,Xg,Xw⟩:=info_parts qK
 obtain⟨i1,hi1,hy0,hy1,hy2⟩:=info_parts nB
 obtain⟨i2,Pg,Ur,ha1,Us⟩:=info_parts gU
 have hmz:((mods.length:Int)<=9223372036854775807):=by omega
 clear hN hM hl hF Nq
 go_enter func17,ntmps17
 go_wp2_with fail
 obtain⟨W0,Vg⟩:=xE (w.alloc (Ux T z.length Y aM mods.length V aS nS cS M x y))
 obtain⟨pb,Xo⟩:=xE w.heap.size
 have P7:xQ (vI pb w W0 (Ux T z.length Y aM mods.length V aS nS cS M x y) nP nP [] [] []):=by
  rw [Vg,Xo];exact⟨Zq _ _,xL w _,rfl,World.ownsRow_nil _ _ _ _,(fun _ h=>nomatch h),World.ownsRow_nil _ _ _ _⟩
 have e0:=Vg
 unfold Ux at e0
 rw [<- e0,<- Xo]
 have HP:=Za Xo
 clear Vg e0 Xo
 go_loopw [4,5,6] (fun vA vD i wr=>∃ (k:Nat) (vs:List vL) (ess:List (List En)) (ds:List Dg),k<=mods.length/\i=iP k/\xQ (vI pb w wr (Ux T z.length Y aM mods.length V aS nS cS M x y) vA vD vs ess ds/\ess.length=k/\ds.length<=k*70000000/\F=Fr md mods k (mods.drop k) ess ds)) (fun _ _ i _=>mods.length - (intOf i).toNat)
 case atStart=>exact⟨0,[],[],[],xZ _,rfl,P7.o,rfl,xZ _,HF.o⟩
 case round =>
  clear P7 HF;obtain⟨r,vs,ess,ds,hr,rfl,HI⟩:=hrel;obtain⟨O,Fd,Ws,hF⟩:=HI.o
  have p1:wr.cell? (aP pb 1)=some (.slice aM mods.length V):=by have h:=O.p; simp [World.cell?,h]
  have Ys:=xB O.p;obtain⟨aA,cA,hv⟩:=Yt O.rA;obtain⟨aD,cD,hd⟩:=Yt O.rD;subst hv hd;by_cases Xe:r<mods.length
  ·have xC:(r:Int)<(mods.length:Int):=by omega
   obtain⟨g,ia,ic,da,dc,rfl,hg,Pe,Ti,h8,h9,Cb,zD⟩:=HM.o r Xe;have Gb:g<wr.heap.size:=xT hg O.b.size;have g0:wr.cell? (aP g (r*2))=some (.slice ia mods[r].is.length ic):=(O.b.cell (p:=(aP g (r*2))) (by have:=HP.o; show g<pb; omega)).trans Pe;have g1:wr.cell? (aP g (r*2+1))=some (.slice da mods[r].ds.length dc):=(O.b.cell (p:=(aP g (r*2+1))) (by have:=HP.o; show g<pb; omega)).trans Ti
   have HFr:xQ (F=Fr md mods (r+1) (mods.drop (r+1)) (ess ++ [(Qx r 0 mods[r].ds (Ad md mods r mods[r].is ([],ds))).1]) (Qx r 0 mods[r].ds (Ad md mods r mods[r].is ([],ds))).2):=hF.trans (by rw [List.drop_eq_getElem_cons Xe]; rfl);obtain⟨o,ho⟩:=xE (mods[r]);rw [<- ho] at g0 g1 h8 h9 Cb zD HFr;have HIm:=Za Cb;have HDe:=Za zD;obtain⟨mb,Bm⟩:=xE wr.heap.size
   have HJ0:xQ (B6 pb mb w (wr.alloc (.cells #[.slice ia o.is.length ic,.slice da o.ds.length dc] 40)) (Ux T z.length Y (some (aP g 0)) mods.length V aS nS cS M x y) #[.slice ia o.is.length ic,.slice da o.ds.length dc] (.slice aA vs.length cA) nP (.slice aD ds.length cD) vs ess [] ds) :=
    ⟨O.b.trans ((Zq _ _).mono (Nat.le_of_lt Ys)),((Zq _ _).block _ Ys).trans O.p,by rw [Bm]; exact xL _ _,by omega,O.ln,O.rA.alloc _,fun i h1 h2=>⟨(O.rs i h1 h2).alloc _,fun q e=>by have:=((O.rs i h1 h2).lt q e).2; omega⟩,World.ownsRow_nil _ _ _ _,O.rD.alloc _⟩
   have hiz:((o.is.length:Int)<=9223372036854775807):=by omega
   have hdz:((o.ds.length:Int)<=9223372036854775807):=by omega
   have HMb:=Za Bm;have HI1:=Za O;clear O hF Pe Ti Cb zD HI ho;rw [Bm] at HJ0;clear Bm;go_wp2_with fail;obtain⟨W1,hW1⟩:=xE (wr.alloc (.cells #[.slice ia o.is.length ic,.slice da o.ds.length dc] 40));rw [<- hW1,<- HMb.o] at HJ0 ⊢;clear hW1
   go_loopw [5,7,9] (fun vD vE j wq=>∃ (k:Nat) (es:List En) (H:List Dg),k<=o.is.length/\j=iP k/\xQ (B6 pb mb w wq (Ux T z.length Y (some (aP g 0)) mods.length V aS nS cS M x y) #[.slice ia o.is.length ic,.slice da o.ds.length dc] (.slice aA vs.length cA) vE vD vs ess es H/\es.length<=8193*k/\H.length<=r*70000000+8193*k/\Ad md mods r o.is ([],ds)=Ad md mods r (o.is.drop k) (es,H))) (fun _ _ j _=>o.is.length - (intOf j).toNat)
   case atStart=>exact⟨0,[],ds,xZ _,rfl,HJ0.o,xZ _,Nat.le_trans Ws (Nat.le_add_right _ _),by rw [List.drop_zero]⟩
   case round =>
    clear HJ0;obtain⟨k,es,H,hk,rfl,HJ⟩:=hrel;obtain⟨J,hesl,hdsl,hE⟩:=HJ.o;obtain⟨av,cv,hv⟩:=Yt J.rE;obtain⟨ad,cd,hd⟩:=Yt J.rD;subst hv hd;have D9:=Za J
    have m0:wr.cell? (aP mb 0)=some (.slice ia o.is.length ic):=by have h:=J.m; simp [World.cell?,h]
    have Uu:=xB J.m;have Ys:=xB J.p;by_cases Z8:k<o.is.length
    ·have Un:(k:Int)<(o.is.length:Int):=by omega
     obtain⟨gi,na,nc,rfl,hgi,hi0,hi1',Pg,hi3,Yb,hna⟩:=HIm.o k Z8;have Z:xQ (Ad md mods r o.is ([],ds)=Ad md mods r (o.is.drop (k+1)) ((Jg md mods r o.is[k] es).1,H ++ (Jg md mods r o.is[k] es).2)):=hE.trans (by rw [List.drop_eq_getElem_cons Z8]; rfl);obtain⟨I,hIk⟩:=xE (o.is[k]);rw [<- hIk] at hi0 hi1' Pg hi3 Yb hna Z;have Ll:=Za hna;have hgl2:gi<wr.heap.size:=xT hgi J.b.size
     have hgp:gi<pb:=by have:=HP.o; omega
     have HS11:xQ (∀ W,Below (mb+1) wr W->(W.cell? (aP pb 0)=some (.slice T z.length Y)/\W.cell? (aP pb 1)=some (lP g mods.length V)/\W.cell? (aP pb 2)=some (.slice aS nS cS)/\W.cell? (aP pb 3)=some (.string M)/\W.cell? (aP pb 4)=some (iP x)/\W.cell? (aP pb 5)=some (iP y))/\W.cell? (aP mb 0)=some (lP gi o.is.length ic)/\W.cell? (aP gi (k*4))=some (uP I.fr)/\W.cell? (aP gi (k*4+1))=some (.slice na I.ns.length nc)/\W.cell? (aP gi (k*4+2))=some (iP I.li)/\W.cell? (aP gi (k*4+3))=some (iP I.co)):=fun W hb=>by
      have hpm:=J.hm;have h:=(hb.block pb (by omega)).trans J.p
      have hc:∀ j,W.cell? (aP gi j)=w.cell? (aP gi j):=fun j=>(hb.cell (p:=aP gi j) (by show gi<mb+1; omega)).trans (J.b.cell (p:=aP gi j) hgp)
      exact⟨by simp [World.cell?,h],(hb.cell (p:=aP mb 0) (by show mb<mb+1; omega)).trans m0,(hc _).trans hi0,(hc _).trans hi1',(hc _).trans Pg,(hc _).trans hi3⟩
     clear J hE hi0 hi1' Pg hi3 hna HJ hIk;obtain⟨R,hR⟩:=xE (Jg md mods r I es);rw [<- hR] at Z;have hRl:=zbv md mods r I es Yb;rw [<- hR] at hRl;have Kc:=Za hRl;have Fb:Below wr.heap.size wr wr.drew:=(Below.refl _ _).drew
     have HIC:xQ (Calls prog 30 #[.agg #[.slice T z.length Y,lP g mods.length V,.slice aS nS cS,.string M,iP x,iP y],iP r,.agg #[uP I.fr,.slice na I.ns.length nc,iP I.li,iP I.co],.slice av es.length cv] wr.drew fun e w'=>∃ vE vD,e = .returned (.tuple #[vE,vD])/\w'.ownsRow (mb+1) 29 3 vE R.1.length (R.1.flatMap Qa)/\w'.ownsRow wr.heap.size 47 4 vD R.2.length (R.2.flatMap U3)/\Z0 (mb+1) (fun b=>(Value.slice av es.length cv).ownBlock=some b) wr w'):=by
      have h:=zby T Y (some (aP g 0)) V aS nS cS M x y z mods r I na nc es av cv (mb+1) w wr.drew HN.o HM.o HL.o hm Ll.o Yb (by have:=(D9.o.below Fb).b; rw [HP.o] at this; exact this) (by have:=D9.o.hm; have:=HP.o; omega) Uu (J8 D9.o.rE Fb) (by omega);rw [<- Uj.o,<- hR] at h
      exact h.mono fun e w' ⟨vE,vD,h1,h2,h3,h4⟩=>⟨vE,vD,h1,h2,h3,h4.undrew⟩
     have hbm:Below (mb+1) wr wr.drew:=(Below.refl _ _).drew;clear hR hRl Fb;go_wp2_with fail
     go_region_held (fun W=>(W.cell? (aP pb 0)=some (.slice T z.length Y)/\W.cell? (aP pb 1)=some (lP g mods.length V)/\W.cell? (aP pb 2)=some (.slice aS nS cS)/\W.cell? (aP pb 3)=some (.string M)/\W.cell? (aP pb 4)=some (iP x)/\W.cell? (aP pb 5)=some (iP y))/\W.cell? (aP mb 0)=some (lP gi o.is.length ic)/\W.cell? (aP gi (k*4))=some (uP I.fr)/\W.cell? (aP gi (k*4+1))=some (.slice na I.ns.length nc)/\W.cell? (aP gi (k*4+2))=some (iP I.li)/\W.cell? (aP gi (k*4+3))=some (iP I.co)) (with_reducible exact HS11.o _ (by with_reducible assumption)) (first
      | (go_at_call 30; refine HIC.o.mono ?_; rintro e w5 ⟨vE5,vD5,rfl,ho5,hd5,hc5⟩; obtain⟨aE5,cE5,rfl⟩:=Yt ho5; obtain⟨aD5,cD5,rfl⟩:=Yt hd5; have Th:=hc5.below; have HJ5:=Za (D9.o.scope hc5 ho5); have HD5:=Za hd5; clear ho5 hd5 hc5))
     have hRl:=Kc.o;have hml5:mb<w5.heap.size:=xB HJ5.o.m;have hpm:=HJ5.o.hm
     go_wp2_with(at_builtin; refine zlh _ rfl (.tmp 47) (.tmp 48) 32 rfl (pb+1) 47 i0 _ 4 32 underlying32 hi Xr Xg Xw rfl (by decide) (.slice ad H.length cd) _ _ rfl HJ5.o.rD aD5 R.2.length cD5 (R.2.flatMap U3) rfl (dg_len _) (aH HD5.o).1 (aH HD5.o).2 (dg_one _) (by unfold maxLen; omega) (by omega) (by omega) ?_)
     intro v' w8 Zr Zo;obtain⟨a8,c8,rfl⟩:=Yt Zr
     have HJ8:xQ (B6 pb mb w w8 (Ux T z.length Y (some (aP g 0)) mods.length V aS nS cS M x y) #[lP gi o.is.length ic,.slice da o.ds.length dc] (.slice aA vs.length cA) (.slice aE5 R.1.length cE5) (.slice a8 (H.length+R.2.length) c8) vs ess R.1 (H ++ R.2)) :=
      HJ5.o.tell ((Z0.refl (pb+1) (fun b=>(Value.slice ad H.length cd).ownBlock=some b) w5).grown Zo (by omega) fun q e=>⟨(HJ5.o.rD.lt q e).1,fun _=>e⟩) (by rw [List.length_append,List.flatMap_append]; exact Zr)
     clear Zr Zo;go_wp2_with fail;exact⟨⟨k+1,R.1,H ++ R.2,by omega,by go_num,HJ8.o,by omega,by rw [List.length_append]; omega,Z.o⟩,by simp [intOf]; omega⟩
    ·have Un:¬ (k:Int)<(o.is.length:Int):=by omega
     have HFs:xQ (F=Fr md mods (r+1) (mods.drop (r+1)) (ess ++ [(Qx r 0 o.ds (es,H)).1]) (Qx r 0 o.ds (es,H)).2):=by
      have e1:Ad md mods r o.is ([],ds)=(es,H):=hE.trans (by rw [List.drop_eq_nil_of_le (by omega)]; rfl);have h:=HFr.o;rw [e1] at h;exact h
     have hel1:es.length<=67125249:=by omega
     have hdl1:H.length<=r*70000000+67125249:=by omega
     clear J hE HJ HFr;go_wp2_with fail
     go_loopw [5,7,12] (fun vD vE j wq=>∃ (k:Nat) (C:List En) (A:List Dg),k<=o.ds.length/\j=iP k/\xQ (B6 pb mb w wq (Ux T z.length Y (some (aP g 0)) mods.length V aS nS cS M x y) #[.slice ia o.is.length ic,.slice da o.ds.length dc] (.slice aA vs.length cA) vE vD vs ess C A/\C.length<=67125249+k/\A.length<=r*70000000+67125249+k/\Qx r 0 o.ds (es,H)=Qx r k (o.ds.drop k) (C,A))) (fun _ _ j _=>o.ds.length - (intOf j).toNat)
     case atStart=>exact⟨0,es,H,xZ _,rfl,D9.o,Nat.le_trans hel1 (Nat.le_add_right _ _),Nat.le_trans hdl1 (Nat.le_add_right _ _),by rw [List.drop_zero]⟩
     case round =>
      clear D9 m0 Uu Ys hel1 hdl1 Un hesl hdsl hk;obtain⟨k,C,A,hk,rfl,HJ⟩:=hrel;obtain⟨J,hesl,hdsl,hE⟩:=HJ.o;obtain⟨av,cv,hv⟩:=Yt J.rE;obtain⟨ad,cd,hd⟩:=Yt J.rD;subst hv hd;have D9:=Za J
      have m1:wr.cell? (aP mb 1)=some (.slice da o.ds.length dc):=by have h:=J.m; simp [World.cell?,h]
      have Uu:=xB J.m;have hpm:=J.hm;by_cases Z8:k<o.ds.length
      ·have Un:(k:Int)<(o.ds.length:Int):=by omega
       obtain⟨N,rfl,Mv,Mh,_,Ki,hd3⟩:=HDe.o k Z8;have Z:xQ (Qx r 0 o.ds (es,H)=Qx r (k+1) (o.ds.drop (k+1)) (Ay r k o.ds[k] (C,A))):=hE.trans (by rw [List.drop_eq_getElem_cons Z8]; rfl)
       have hgp:N<pb:=by have:=HP.o; omega
       have Xk:∀ j,wr.cell? (aP N j)=w.cell? (aP N j):=fun j=>J.b.cell (p:=aP N j) hgp
       have n0:wr.cell? (aP N (k*15))=some (.string ⟨o.ds[k].nm.toArray⟩):=(Xk _).trans Mh;have hgl2:N<wr.heap.size:=xT Mv J.b.size;obtain⟨d,hdk⟩:=xE (o.ds[k]);rw [<- hdk] at n0 Z Ki hd3;obtain⟨a5,c5,e5,hEns⟩:=jB J.rE;injection e5 with e51 e52 e53;subst e51 e53;have HEns:=Za hEns;have Mr:=Za (And.intro Ki hd3)
       have hel5:(C.length:Int)<=9223372036854775807:=by omega
       clear J hE Mh Ki hd3 HJ hdk Xk hEns e52;go_wp2_with fail;refine(jN av cv C ⟨d.nm.toArray⟩ wr HEns.o hel5).mono ?_;rintro e w6 ⟨⟨fs,fa,fb,rfl⟩,Ss⟩;have HJ6:=Za (D9.o.below Ss);obtain⟨hd,Ff⟩:=xE (La C d.nm);rw [show(⟨d.nm.toArray⟩:bA).data.toList=d.nm from rfl,<- Ff];have HHd:=Za Ff;have m6:w6.cell? (aP mb 1)=some (lP N o.ds.length dc):=(Ss.cell (p:=aP mb 1) Uu).trans m1
       have hml6:=xB HJ6.o.m;have hgl6:N<w6.heap.size:=xT hgl2 Ss.size;have n6:w6.cell? (aP N (k*15))=some (uP d.nm):=(Ss.cell (p:=(aP N (k*15))) hgl2).trans n0;have n62:w6.cell? (aP N (k*15+13))=some (iP d.li):=(HJ6.o.b.cell (p:=aP N _) hgp).trans Mr.o.1;have n63:w6.cell? (aP N (k*15+14))=some (iP d.co):=(HJ6.o.b.cell (p:=aP N _) hgp).trans Mr.o.2
       clear Ff Ss m1 n0 Uu hgl2 HEns D9
       cases hd with
       | true =>
        obtain⟨W7,Pd⟩:=xE (w6.alloc (.cells #[.string fs,iP fa,iP fb] 29))
        have hb7:Below w6.heap.size w6 W7:=by rw [Pd]; exact Zq _ _
        have Si:=Za Pd;clear Pd;go_wp2_with fail;rw [<- Si.o];have HJ7:=Za (HJ6.o.below hb7);have m7:W7.cell? (aP mb 1)=some (lP N o.ds.length dc):=(hb7.cell (p:=aP mb 1) hml6).trans m6;have n72:W7.cell? (aP N (k*15+13))=some (iP d.li):=(hb7.cell (p:=aP N _) hgl6).trans n62;have n73:W7.cell? (aP N (k*15+14))=some (iP d.co):=(hb7.cell (p:=aP N _) hgl6).trans n63
        have hml7:mb<W7.heap.size:=xT hml6 hb7.size;have hgl7:N<W7.heap.size:=xT hgl6 hb7.size;have HO7:xQ (W7.drew.ownsRow (pb+1) 47 4 (.slice ad A.length cd) A.length (A.flatMap U3)):=HJ7.o.rD;have HE8:xQ (Qx r 0 o.ds (es,H)=Qx r (k+1) (o.ds.drop (k+1)) (C,A ++ [⟨r,d.li,d.co,8⟩])):=Z.o.trans (by unfold Ay; rw [if_pos HHd.o.symm]);clear m6 n6 n62 n63 hml6 hgl6 hb7 HJ6 Si Z
        go_region_law(first
         | (refine El rfl (.tmp 69) (.tmp 84) 32 rfl (pb+1) 47 i0 _ 4 32 underlying32 hi Xr Xg Xw rfl (by decide) (.slice ad A.length cd) _ _ (by first | rfl | simp [Act.eval,Act.put]) (HO7.o.alloc _) (aP W7.heap.size 0) 1 1 [iP r,iP d.li,iP d.co,iP 8] (by first | rfl | simp [Act.eval,Act.put]) rfl (V2 _ _ _) (by simp [Value.oneCell']) (by unfold maxLen; omega) (by omega) (by show pb+1<=(W7.alloc _).heap.size; rw [xS]; omega) ?_; intro v' w8 Zr Zo Z4; obtain⟨a8,c8,rfl⟩:=Yt Zr; have HO8:=Za Zr; have HG8:=Za Zo; clear Zr Zo Z4))
        all_goals go_wp2_with fail
        all_goals
         have hg8:(W7.alloc (.cells #[iP r,iP d.li,iP d.co,iP 8] 47)).grownBy w8 (Value.slice ad A.length cd).ownBlock:=⟨HG8.o.os,HG8.o.tape,HG8.o.output,HG8.o.size,HG8.o.block⟩
         have hJa:=HJ7.o.below (Zq W7 (.cells #[iP r,iP d.li,iP d.co,iP 8] 47))
         have HJ8:xQ (B6 pb mb w w8 (Ux T z.length Y (some (aP g 0)) mods.length V aS nS cS M x y) #[.slice ia o.is.length ic,lP N o.ds.length dc] (.slice aA vs.length cA) (.slice av C.length cv) (.slice a8 (A.length+1) c8) vs ess C (A ++ [⟨r,d.li,d.co,8⟩])) :=
          hJa.tell ((Z0.refl (pb+1) (fun b=>(Value.slice ad A.length cd).ownBlock=some b) _).grown hg8 (by rw [xS]; omega) fun q e=>⟨(hJa.rD.lt q e).1,fun _=>e⟩) (by rw [List.length_append,List.flatMap_append]; exact HO8.o)
         exact⟨⟨k+1,C,A ++ [⟨r,d.li,d.co,8⟩],by omega,by go_num,HJ8.o,by omega,by rw [List.length_append]; show A.length+1<=_; omega,HE8.o⟩,by simp [intOf]; omega⟩
       | false =>
        have HJ7:xQ (B6 pb mb w (w6.alloc (.cells #[.string fs,iP fa,iP fb] 29)) (Ux T z.length Y (some (aP g 0)) mods.length V aS nS cS M x y) #[.slice ia o.is.length ic,lP N o.ds.length dc] (.slice aA vs.length cA) (.slice av C.length cv) (.slice ad A.length cd) vs ess C A):=HJ6.o.below (Zq _ _);obtain⟨W7,Pd⟩:=xE (w6.alloc (.cells #[.string fs,iP fa,iP fb] 29));rw [<- Pd] at HJ7
        have Uh:xQ (∀ j u,[uP d.nm,iP r,iP k][j]?=some u->(W7.alloc (.cells #[uP d.nm,iP r,iP k] 29)).cell? (((aP (w6.heap.size+1) 0):Addr).add j)=some u):=by
         have:=V2 W7 [uP d.nm,iP r,iP k] 29;rw [show W7.heap.size=w6.heap.size+1 by rw [Pd,xS]] at this;exact this
        have Si:=Za Pd;have hs7:mb+1<=W7.heap.size:=xB HJ7.o.m;have HE8:xQ (Qx r 0 o.ds (es,H)=Qx r (k+1) (o.ds.drop (k+1)) (C ++ [⟨d.nm,r,k⟩],A)):=Z.o.trans (by unfold Ay; rw [if_neg (by rw [<- HHd.o]; decide)]);clear Pd
        go_wp2_with(at_builtin; rw [<- Si.o]; refine wpList_append_own_at _ rfl (.tmp 86) (.tmp 96) 42 rfl (mb+1) 29 i1 _ 3 32 underlying42 hi1 hy0 hy1 hy2 rfl (by decide) _ _ _ rfl (HJ7.o.rE.alloc _) (aP _ 0) 1 1 [uP d.nm,iP r,iP k] rfl rfl Uh.o (by simp [Value.oneCell']) (by unfold maxLen; omega) (by omega) (by rw [xS]; omega) ?_)
        intro v' w8 Zr Zo _ _;obtain⟨a8,c8,rfl⟩:=Yt Zr;have hJa:=HJ7.o.below (Zq W7 (.cells #[uP d.nm,iP r,iP k] 29))
        have HJ8:xQ (B6 pb mb w w8 (Ux T z.length Y (some (aP g 0)) mods.length V aS nS cS M x y) #[.slice ia o.is.length ic,lP N o.ds.length dc] (.slice aA vs.length cA) (.slice a8 (C.length+1) c8) (.slice ad A.length cd) vs ess (C ++ [⟨d.nm,r,k⟩]) A) :=
         hJa.scope ((Z0.refl (mb+1) (fun b=>(Value.slice av C.length cv).ownBlock=some b) _).grown Zo (by rw [xS]; omega) fun q e=>⟨(hJa.rE.lt q e).1,fun _=>e⟩) (by rw [List.length_append,List.flatMap_append]; exact Zr)
        clear Zr Zo hJa;go_wp2_with fail;exact⟨⟨k+1,C ++ [⟨d.nm,r,k⟩],A,by omega,by go_num,HJ8.o,by rw [List.length_append]; show C.length+1<=_; omega,by omega,HE8.o⟩,by simp [intOf]; omega⟩
      ·have Un:¬ (k:Int)<(o.ds.length:Int):=by omega
       have HFq:xQ (F=Fr md mods (r+1) (mods.drop (r+1)) (ess ++ [C]) A):=by
        have e1:Qx r 0 o.ds (es,H)=(C,A):=hE.trans (by rw [List.drop_eq_nil_of_le (by omega)]; rfl);have h:=HFs.o;rw [e1] at h;exact h
       have hvl:vs.length<=16:=by have:=J.ln; omega
       clear J hE HJ HFs
       go_wp2_with(at_builtin; refine wpList_append_own_at _ rfl (.tmp 98) (.tmp 100) 27 rfl (pb+1) 42 i2 _ 1 24 underlying27 Pg Ur ha1 Us rfl (by decide) _ _ _ rfl (D9.o.rA.alloc _) (aP _ 0) 1 1 [.slice av C.length cv] rfl rfl (V2 _ _ _) (by simp [Value.oneCell']) (by unfold maxLen; omega) (by omega) (by rw [xS]; omega) ?_)
       intro v' w8 Zr Zo _ _;obtain⟨a8,c8,rfl⟩:=Yt Zr
       have HI8:xQ (vI pb w w8 (Ux T z.length Y (some (aP g 0)) mods.length V aS nS cS M x y) (.slice a8 (vs.length+1) c8) (.slice ad A.length cd) (vs ++ [.slice av C.length cv]) (ess ++ [C]) A) :=
        D9.o.push (((Z0.refl (pb+1) (fun b=>(Value.slice aA vs.length cA).ownBlock=some b) _).alloc (by omega) _).grown Zo (by rw [xS]; omega) fun q e=>⟨(D9.o.rA.lt q e).1,fun _=>e⟩) Zr
       clear Zr Zo;go_wp2_with fail;exact⟨⟨r+1,vs ++ [.slice av C.length cv],ess ++ [C],A,by omega,by go_num,HI8.o,by rw [List.length_append]; show ess.length+1=_; omega,by omega,HFq.o⟩,by simp [intOf]; omega⟩
  ·have xC:¬ (r:Int)<(mods.length:Int):=by omega
   have De:F=(ess,ds):=hF.trans (by rw [List.drop_eq_nil_of_le (by omega)]; rfl);have HFs:=Za De;have D8:=Za O;clear O hF De HI;go_wp2_with fail;refine bodyPost_ret (uL rfl _ _ _) rfl ?_;refine⟨.slice aA vs.length cA,.slice aD ds.length cD,rfl,vs,?_⟩;rw [HFs.o,<- HP.o];exact D8.o
def Uz (w:wD) (b n:Nat) (f:Nat->Nat->Bool):Prop:=∃ cs:Array vL,w.heap[b]?=some (.cells cs 82)/\cs.size=n*16/\∀ i j,i<n->j<16->cs[i*16+j]?=some (.bool (f i j))
section
variable {w w' : wD} {b n : Nat} {f g : Nat -> Nat -> Bool}
theorem Uz.block (h:Uz w b n f) (C:w'.heap[b]?=w.heap[b]?):Uz w' b n f:=by
 obtain⟨cs,z,A,j⟩:=h
 exact⟨cs,C.trans z,A,j⟩
theorem Uz.lt (h:Uz w b n f):b<w.heap.size:=by
 obtain⟨cs,j,h2,h3⟩:=h
 exact xB j
theorem Uz.congr (h:Uz w b n f) (F:∀ i j,i<n->j<16->f i j=g i j):Uz w b n g:=by
 obtain⟨cs,H,I,C⟩:=h
 exact⟨cs,H,I,fun i j z A=>by rw [<- F i j z A]; exact C i j z A⟩
theorem Uz.cell (h:Uz w b n f) {i j:Nat} (A:i<n) (F:j<16):w.cell? (aP b (i*16+j))=some (.bool (f i j))/\w.frozen? (aP b (i*16+j))=false:=by
 obtain⟨cs,z,h2,C⟩:=h
 have:=C i j A F
 refine⟨?_,by simp [World.frozen?,z]⟩
 unfold World.cell?
 rw [z]
 exact this
theorem Uz.put (h:Uz w b n f) {k t:Nat} (hk:k<n) (ht:t<16) (x:Bool):Uz (w.setCell (aP b (k*16+t)) (.bool x)) b n (fun i j=>if i=k/\j=t then x else f i j):=by
 obtain⟨cs,F,z,C⟩:=h
 refine⟨_,Y1 F,by rw [Array.size_setIfInBounds]; exact z,fun i j A H=>?_⟩
 rw [Array.getElem?_setIfInBounds]
 show _=some (Value.bool (if i=k/\j=t then x else f i j))
 by_cases e:i=k/\j=t
 ·obtain⟨rfl,rfl⟩:=e
  rw [if_pos rfl,if_pos (by rw [z]; omega),if_pos ⟨rfl,rfl⟩]
 ·rw [if_neg (by omega),if_neg e]
  exact C i j A H
theorem zdq (n:Nat) {i:Nat} (z:i<n):(madeCells (#[.bool false,.bool false,.bool false,.bool false,.bool false,.bool false,.bool false,.bool false,.bool false,.bool false,.bool false,.bool false,.bool false,.bool false,.bool false,.bool false]:Array vL) n)[i]?=some (.bool false):=by
 unfold madeCells
 rw [Array.getElem?_map,Array.getElem?_range,if_pos z]
 have h:i % 16<16:=Nat.mod_lt _ (by omega)
 simp only [Option.map_some,List.size_toArray,List.length_cons,List.length_nil,Nat.reduceAdd]
 generalize i % 16=j at h
 match j,h with
 | 0,_ | 1,_ | 2,_ | 3,_ | 4,_ | 5,_ | 6,_ | 7,_ | 8,_ | 9,_ | 10,_ | 11,_ | 12,_ | 13,_ | 14,_ | 15,_=>rfl
 | n+16,h=>exact absurd h (by omega)
end
theorem zci:(prog.info? 82).map (fun i=>(i.zero,i.size,i.bytes))=some (some (.agg #[.bool false,.bool false,.bool false,.bool false,.bool false,.bool false,.bool false,.bool false,.bool false,.bool false,.bool false,.bool false,.bool false,.bool false,.bool false,.bool false]),16,16):=by kernel_rfl
abbrev vO (n:Nat):Obj := .cells (madeCells #[.bool false,.bool false,.bool false,.bool false,.bool false,.bool false,.bool false,.bool false,.bool false,.bool false,.bool false,.bool false,.bool false,.bool false,.bool false,.bool false] (n*16)) 82
theorem aO (n:Nat) (hn:n<=1000) (w:wD):(Instr.makeSlice 79 (iP (n:Int)) (iP (n:Int))).run prog w = .ok (lP w.heap.size n n) (w.alloc (vO n)):=by
 obtain⟨C,j,A,F,z⟩:=info_parts zci
 have h:=run_make (P:=prog) w 79 82 C _ underlying79 j A .i64 .i64 n n (by omega) (Int.le_refl _) (by rw [z]; omega) (by omega)
 rw [F] at h
 simp only [Int.toNat_natCast] at h
 exact h
theorem l4 (w:wD) (n:Nat):Uz (w.alloc (vO n)) w.heap.size n (fun _ _=>false) :=
 ⟨_,xL _ _,size_madeCells _ _,fun i j hi hj=>zdq _ (by omega)⟩
def vT (num:Wo) (mods:List Mo) (i j:Nat):Bool:=((Pu num mods).getD i Vh).getD j false
def Sn (num:Wo) (mods:List Mo) (k:Nat) (row:List Bool) (i j:Nat):Bool:=if i<k then((Pu num mods).getD i Vh).getD j false else if i=k then row.getD j false else false
theorem hH (r:List Bool) (t j:Nat) (z:t<r.length):(r.set t true).getD j false=if j=t then true else r.getD j false:=by
 rw [List.getD_eq_getElem?_getD,List.getD_eq_getElem?_getD,List.getElem?_set]
 by_cases e:j=t
 ·subst e
  simp [z]
 ·rw [if_neg (fun h=>e h.symm),if_neg e]
theorem pE (j:Nat):Vh.getD j false=false:=by
 unfold Vh
 rw [List.getD_eq_getElem?_getD]
 by_cases h:j<16
 ·rw [List.getElem?_replicate,if_pos h]; rfl
 ·rw [List.getElem?_replicate,if_neg h]; rfl
theorem kZ (num:Wo):∀ (l:List Vx) (r:List Bool),(Hy num l r).length=r.length
 | [],_=>rfl
 | i :: l,r=>by
  show(Hy num l _).length=_;rw [kZ num l,List.length_set]
theorem k8 (num:Wo) (i:Vx):∀ (l:List Vx) (r:List Bool),Hy num (l ++ [i]) r=(Hy num l r).set (Fl num i.fr) true
 | [],_=>rfl
 | _ :: l,_=>k8 num i l _
theorem zai (num:Wo) (mods:List Mo) (k t:Nat) (row:List Bool) (z:t<row.length) (i j:Nat):Sn num mods k (row.set t true) i j=if i=k/\j=t then true else Sn num mods k row i j:=by
 unfold Sn
 by_cases h:i<k
 ·rw [if_pos h,if_pos h,if_neg (by omega)]
 ·rw [if_neg h,if_neg h]
  by_cases e:i=k
  ·rw [if_pos e,if_pos e,hH _ _ _ z]
   simp [e]
  ·rw [if_neg e,if_neg e,if_neg (by omega)]
theorem jA (num:Wo) (mods:List Mo) {k:Nat} (h:k<mods.length):(Pu num mods).getD k Vh=Hy num mods[k].is Vh:=by
 unfold Pu
 rw [List.getD_eq_getElem?_getD,List.getElem?_map,List.getElem?_eq_getElem h]
 rfl
theorem zah (num:Wo) (mods:List Mo) (k:Nat) (z:k<mods.length) (i j:Nat):Sn num mods k (Hy num mods[k].is Vh) i j=Sn num mods (k+1) Vh i j:=by
 unfold Sn
 by_cases h:i<k
 ·rw [if_pos h,if_pos (by omega)]
 ·rw [if_neg h]
  by_cases e:i=k
  ·subst e
   rw [if_pos rfl,if_pos (by omega),jA num mods z]
  ·rw [if_neg e,if_neg (by omega),pE]
   simp
theorem Vw.numOf_lt {lo kb nb:Nat} {w:wD} {L:L1} {r:Rw} (h:Vw lo kb nb w L r) (j:0<L.mods.length) (s:Bs):Fl L.num s<L.mods.length:=by
 unfold Fl
 cases hk:Yp L.num s with
 | none=>exact j
 | some f=>exact h.num_lt hk
theorem zak (lo kb nb:Nat) (L:L1) (r:Rw) (w:wD) (c2 c3 c4 c5 c8:vL) (M:Vw lo kb nb w L r) (hb:w.heap[kb]?=some (Hf nb L r c2 c3 c4 c5 c8)) :
  Calls prog 39 #[qP kb] w fun e w'=>e = .returned (lP w.heap.size L.mods.length L.mods.length)/\Uz w' w.heap.size L.mods.length (vT L.num L.mods)/\Below w.heap.size w w':=by
 have Uu:=M.ml
 have hmk:=aO L.mods.length (by omega)
 have O:=Za M
 have HB:=Za hb
 have yV:=M.lt1
 have Gf:=M.lt2
 have hlt3:=M.lt3
 obtain⟨⟨_,p1,_⟩,_,hkl0⟩:=Mc hb
 obtain⟨⟨_,p1',_⟩,_,_⟩:=Mc (show(w.alloc (vO L.mods.length)).heap[kb]?=some (Hf nb L r c2 c3 c4 c5 c8) from (xA hkl0).trans hb)
 have hzm:((L.mods.length:Int)<=9223372036854775807):=by omega
 obtain⟨aM,Az⟩:=xE r.aM
 rw [<- Az] at p1 p1'
 have HaM:=Za Az
 clear Az M hb
 go_enter func39,ntmps39
 go_wp2_with fail
 clear p1 p1' hmk
 go_loopw [21] (fun i wr=>∃ k:Nat,k<=L.mods.length/\i=iP k/\xQ (Uz wr w.heap.size L.mods.length (Sn L.num L.mods k Vh))/\xQ (Below w.heap.size w wr)) (fun i _=>L.mods.length - (intOf i).toNat)
 case atStart =>
  refine⟨0,by omega,rfl,(l4 w _).congr fun i j hi hj=>?_,Zq w _⟩;unfold Sn;rw [if_neg (by omega),pE];simp
 case round =>
  obtain⟨k,hk,rfl,HA,z⟩:=hrel;by_cases Y:k<L.mods.length
  ·have Un:(k:Int)<(L.mods.length:Int):=by omega
   obtain⟨Z,x,G9,hgM1,A2,Fc,J0,Sq⟩:=O.o.mod Y;have Ip:aM=some (aP Z 0):=HaM.o.trans G9;subst Ip;obtain⟨ia,il,ic,da,dl,dc⟩:=x;obtain⟨Um,Ws,Zs,Z5,Fi,Xv,_⟩:=Sq;simp only at Um Ws Fi Xv Fc J0;have T:=Za (O.o.good _ (List.getElem_mem Y));have q0:wr.cell? (aP Z (k*2))=some (.slice ia il ic):=(z.o.cell (p:=(aP Z (k*2))) A2).trans Fc;have q1:wr.cell? (aP Z (k*2+1))=some (.slice da dl dc):=(z.o.cell (p:=(aP Z (k*2+1))) A2).trans J0
   have Gv:=Za (zah L.num L.mods k Y);obtain⟨o,ho⟩:=xE (L.mods[k]);rw [<- ho] at Um Ws Zs Z5 Fi Xv T Gv;subst Um Ws;have Kv:=Za Fi
   have hzi:((o.is.length:Int)<=9223372036854775807):=by omega
   have Vq:xQ (Uz (wr.alloc (.cells #[.slice ia o.is.length ic,.slice da o.ds.length dc] 40)) w.heap.size L.mods.length (Sn L.num L.mods k Vh)):=HA.o.block (xA HA.o.lt);have Xa:xQ (Below w.heap.size w (wr.alloc (.cells #[.slice ia o.is.length ic,.slice da o.ds.length dc] 40))):=z.o.alloc z.o.size _;clear Fi Xv Fc J0 ho;go_wp2_with fail;clear q0 q1
   go_loopw [29] (fun i w2=>∃ h:Nat,h<=o.is.length/\i=iP h/\xQ (Uz w2 w.heap.size L.mods.length (Sn L.num L.mods k (Hy L.num (o.is.take h) Vh)))/\xQ (Below w.heap.size w w2)) (fun i _=>o.is.length - (intOf i).toNat)
   case atStart=>exact⟨0,by omega,rfl,Vq.o,Xa.o⟩
   case round =>
    obtain⟨h,Tt,rfl,A,C⟩:=hrel;by_cases A3:h<o.is.length
    ·have vV:(h:Int)<(o.is.length:Int):=by omega
     obtain⟨F,hia,hgi1,Fe,c,_,N,na,nc,rfl,Yb,hnf⟩:=Re Kv.o A3;subst hia;have HIG:=Za (T.o.1 _ (List.getElem_mem A3));have J:=k8 L.num o.is[h] (o.is.take h) Vh;rw [List.take_append_getElem A3] at J;obtain⟨I,hI⟩:=xE (o.is[h]);rw [<- hI] at N HIG J;have t0:wr.cell? (aP F (h*4))=some (uP I.fr):=(C.o.cell (p:=(aP F (h*4))) Fe).trans (N 0 (by omega));have t1:wr.cell? (aP F (h*4+1))=some (.slice na I.ns.length nc):=(C.o.cell (p:=(aP F (h*4+1))) Fe).trans (N 1 (by omega))
     have t2:wr.cell? (aP F (h*4+2))=some (iP I.li):=(C.o.cell (p:=(aP F (h*4+2))) Fe).trans (N 2 (by omega));have t3:wr.cell? (aP F (h*4+3))=some (iP I.co):=(C.o.cell (p:=(aP F (h*4+3))) Fe).trans (N 3 (by omega))
     have hS:(⟨I.fr.toArray⟩:bA).size<=maxLen:=by have:=HIG.o.1; simp [ByteArray.size]; unfold maxLen; omega
     have htn:=O.o.numOf_lt (by omega) I.fr;have Np:=dW (O.o.num.block (w':=(wr.alloc (Pi I na nc)).drew) ((xA (by have:=C.o.size; have:=O.o.num.lt; omega)).trans (C.o.block nb (by omega)))) ⟨I.fr.toArray⟩ hS;rw [show(⟨I.fr.toArray⟩:bA).data.toList=I.fr by simp] at Np;obtain⟨t,ht⟩:=xE (Fl L.num I.fr);rw [show(Yp L.num I.fr).getD 0=t from ht.symm] at Np;rw [<- ht] at J htn
     obtain⟨row,Yu⟩:=xE (Hy L.num (o.is.take h) Vh)
     have Xe:row.length=16:=by rw [Yu,kZ]; rfl
     rw [<- Yu] at A J;have Gy:=Za J
     have H:t<16:=by omega
     have Dz:xQ (Uz (wr.alloc (Pi I na nc)).drew w.heap.size L.mods.length (Sn L.num L.mods k row)):=A.o.block (xA A.o.lt);have Jz:=Dz.o.cell Y H;obtain⟨Dh,hbf⟩:=Jz
     have V:kb<wr.heap.size:=by have:=C.o.size; omega
     obtain⟨⟨_,_,_,_,_,_,p6,_⟩,_,_⟩:=Mc (show(wr.alloc (Pi I na nc)).drew.heap[kb]?=some (Hf nb L r c2 c3 c4 c5 c8) from (xA V).trans ((C.o.block kb (by omega)).trans HB.o));obtain⟨⟨i0,_⟩,_,_⟩:=Yh (show(wr.alloc (Pi I na nc)).drew.heap[wr.heap.size]?=some (Pi I na nc) from xL _ _)
     have htz:(t:Int)<16:=by omega
     have HBd:xQ (Below w.heap.size w ((wr.alloc (Pi I na nc)).drew.setCell (aP w.heap.size (k*16+t)) (.bool true))):=((C.o.alloc C.o.size _).drew).setCell (p:=(aP w.heap.size (k*16+t))) (xR) _;clear N hnf J hI ht Yu;go_wp2_with fail
     apply wA ((wr.alloc (Pi I na nc)).drew.setCell (aP w.heap.size (k*16+t)) (.bool true))
     ·go_region
      all_goals exact⟨rfl,rfl⟩
     ·simp only [Exit.inBlock,Exit.then]
      go_wp2_with fail
      go_roundw
      case rel =>
       refine⟨h+1,by omega,by go_num,?_,HBd.o⟩;show Uz _ _ _ _;rw [Gy.o]
       exact(Dz.o.put Y H true).congr fun i j _ _=>(zai L.num L.mods k t row (by omega) i j).symm
      case measure=>simp [intOf]; omega
    ·have vV:¬ (h:Int)<(o.is.length:Int):=by omega
     have e:o.is.take h=o.is:=List.take_of_length_le (by omega);rw [e] at A;go_wp2_with fail
     go_roundw
     case rel=>exact⟨k+1,by omega,by go_num,A.o.congr fun i j _ _=>Gv.o i j,C.o⟩
     case measure=>simp [intOf]; omega
  ·have Un:¬ (k:Int)<(L.mods.length:Int):=by omega
   go_wp2_with fail;go_ret;refine⟨rfl,HA.o.congr fun i j hi _=>?_,z.o⟩;unfold Sn vT;rw [if_pos (by omega)]
def Eo (r:List Bool):Nat:=r.count false
def Ep (dir:List (List Bool)) (f at':Nat) (r:List Bool) (k:Nat):List Bool:=(List.range k).foldl (fun r k=>if (dir.getD at' Vh).getD k false then Ka dir f k r else r) r
theorem lF (h:List (List Bool)) (f j:Nat) (r:List Bool) (k:Nat):Ep h f j r (k+1)=if (h.getD j Vh).getD k false then Ka h f k (Ep h f j r k)else Ep h f j r k:=by
 unfold Ep
 rw [List.range_succ,List.foldl_append]
 rfl
theorem eY (j:List (List Bool)) (f h:Nat) (r:List Bool):Ka j (f+1) h r=if r.getD h false then r else Ep j f h (r.set h true) 16:=rfl
theorem eN {r:List Bool} {i:Nat} (j:i<r.length) (h:r.getD i false=false):Eo (r.set i true)+1=Eo r:=by
 unfold Eo
 rw [List.getD_eq_getElem?_getD,List.getElem?_eq_getElem j,Option.getD_some] at h
 rw [List.count_set j,h]
 have:0<r.count false:=List.count_pos_iff.2 (h ▸ List.getElem_mem j)
 simp
 omega
theorem eZ (z:List (List Bool)):∀ (f j:Nat) (r:List Bool),r.length=16->j<16->(Ka z f j r).length=16/\Eo (Ka z f j r)<=Eo r
 | 0,_,r,h,_=>⟨h,xR⟩
 | f+1,j,r,h,ha=>by
  rw [eY];by_cases F:r.getD j false=true
  ·rw [if_pos F]
   exact⟨h,xR⟩
  ·rw [if_neg F]
   have hu:=eN (by omega:j<r.length) (by simpa using F)
   have C:∀ k,k<=16->(Ep z f j (r.set j true) k).length=16/\Eo (Ep z f j (r.set j true) k)<=Eo (r.set j true):=by
    intro k
    induction k with
    | zero=>exact fun _=>⟨by show(r.set j true).length=16; rw [List.length_set]; exact h,xR⟩
    | succ k ih =>
     intro hk;obtain⟨A,H⟩:=ih (by omega);rw [lF]
     split
     ·obtain⟨I,h4⟩:=eZ z f k _ A (by omega)
      exact⟨I,by omega⟩
     ·exact⟨A,H⟩
   obtain⟨A,H⟩:=C 16 (xR);exact⟨A,by omega⟩
theorem zku (j:List (List Bool)) (f z:Nat) (r:List Bool) (h:r.length=16):∀ k,k<=16->(Ep j f z r k).length=16/\Eo (Ep j f z r k)<=Eo r:=by
 intro k
 induction k with
 | zero=>exact fun _=>⟨h,xR⟩
 | succ k ih =>
  intro hk;obtain⟨A,F⟩:=ih (by omega);rw [lF]
  split
  ·obtain⟨C,h4⟩:=eZ j f k _ A (by omega)
   exact⟨C,by omega⟩
  ·exact⟨A,F⟩
def Fq (base:Nat->Nat->Bool) (m:Nat) (r:List Bool) (i j:Nat):Bool:=if i=m then r.getD j false else base i j
theorem zhh (h:Nat->Nat->Bool) (m t:Nat) (r:List Bool) (z:t<r.length) (i j:Nat):Fq h m (r.set t true) i j=if i=m/\j=t then true else Fq h m r i j:=by
 unfold Fq
 by_cases e:i=m
 ·rw [if_pos e,if_pos e,hH _ _ _ z]
  simp [e]
 ·rw [if_neg e,if_neg e,if_neg (by omega)]
abbrev lE (rc mc dc vc:Nat):vL := .func (.func 40) #[] #[qP rc,qP mc,qP dc,qP vc]
structure vJ (w:wD) (rc mc dc vc rb db n m:Nat) (D:Nat->Nat->Bool):Prop where
 c1:w.cell? (aP rc 0)=some (lP rb n n)
 c2:w.cell? (aP mc 0)=some (iP m)
 c3:w.cell? (aP dc 0)=some (lP db n n)
 c4:w.cell? (aP vc 0)=some (lE rc mc dc vc)
 bd:Uz w db n D
 n1:rc≠rb
 n2:mc≠rb
 n3:dc≠rb
 n4:vc≠rb
 n5:db≠rb
theorem vJ.chg {w w':wD} {z A dc C rb db n m B:Nat} {D:Nat->Nat->Bool} (h:vJ w z A dc C rb db n m D) (j:Z0 B (fun b=>b=rb) w w'):vJ w' z A dc C rb db n m D :=
 ⟨j.cell h.c1 h.n1,j.cell h.c2 h.n2,j.cell h.c3 h.n3,j.cell h.c4 h.n4,h.bd.block (j.keep db h.bd.lt h.n5),h.n1,h.n2,h.n3,h.n4,h.n5⟩
theorem zhw (cs:Array vL) (k:Nat) (hk:k<16) (v:vL) (hv:cs[k]?=some v) (w:wD):(Instr.index 82 (.agg cs) (iP (k:Int))).run prog w = .ok v w:=by
 have A:(0:Int)<=(k:Int):=by omega
 have C:(prog.info? 4).map (fun i=>i.size)=some 1:=by kernel_rfl
 obtain⟨i,j,z⟩:=Option.map_eq_some_iff.1 C
 simp [Instr.index,asIntOf,run_underlying underlying82,part,isAgg,run_underlying underlying4,sizeOf,typeInfo,j,z,A,hv,Result.andThen]
 intro h
 omega
theorem zhk (D:Nat->Nat->Bool) (a:Nat):∀ k,k<16->((#[.bool (D a 0),.bool (D a 1),.bool (D a 2),.bool (D a 3),.bool (D a 4),.bool (D a 5),.bool (D a 6),.bool (D a 7),.bool (D a 8),.bool (D a 9),.bool (D a 10),.bool (D a 11),.bool (D a 12),.bool (D a 13),.bool (D a 14),.bool (D a 15)]:Array vL))[k]?=some (.bool (D a k)):=by
 intro k j
 match k,j with
 | 0,_ | 1,_ | 2,_ | 3,_ | 4,_ | 5,_ | 6,_ | 7,_ | 8,_ | 9,_ | 10,_ | 11,_ | 12,_ | 13,_ | 14,_ | 15,_=>rfl
 | n+16,h=>exact absurd h (by omega)
theorem cB (rc mc dc vc rb db n m:Nat) (D:Nat->Nat->Bool) (A:List (List Bool)) (h:Nat->Nat->Bool) (hm:m<n) (hn:n<=16) (hD:∀ i j,i<n->j<16->D i j=(A.getD i Vh).getD j false) (F:∀ i j,i<n->j<16->D i j=true->j<n) :
  ∀ (f a:Nat) (r:List Bool) (w:wD),a<n->r.length=16->Eo r<f->vJ w rc mc dc vc rb db n m D->Uz w rb n (Fq h m r) ->
  Calls prog 40 #[iP a,qP rc,qP mc,qP dc,qP vc] w fun e w'=>e = .returned (.tuple #[])/\Uz w' rb n (Fq h m (Ka A f a r))/\Z0 rb (fun b=>b=rb) w w'
 | 0,_,_,_,_,_,hu,_,_=>absurd hu (Nat.not_lt_zero _)
 | f+1,a,r,w,ha,hr,hu,hs,hb=>by
  have IH:=Za (fun a' r' w' h1 Y V h4 h5=>cB rc mc dc vc rb db n m D A h hm hn hD F f a' r' w' h1 Y V h4 h5);have HS:=Za hs;have HB:=Za hb;have HD:=Za hD;have HDn:=Za F;have c1:=hs.c1;have c2:=hs.c2;have c3:=hs.c3;have c4:=hs.c4
  have hm':(m:Int)<(n:Int):=by omega
  have ha':(a:Int)<(n:Int):=by omega
  have ha16:(a:Int)<16:=by omega
  have hzn:((n:Int)<=9223372036854775807):=by omega
  obtain⟨b1,b2⟩:=hb.cell hm (by omega:a<16)
  have Yu:Fq h m r m a=r.getD a false:=by unfold Fq; rw [if_pos rfl]
  rw [Yu] at b1;clear hs hb hD F Yu;obtain⟨R,C⟩:=xE (Ka A (f+1) a r);rw [<- C];rw [eY] at C
  cases hx:r.getD a false with
  | true =>
   rw [hx,if_pos rfl] at C;have Z:=Za C;rw [hx] at b1;clear C hx;go_enter func40,ntmps40;go_wp2_with fail;refine bodyPost_ret (results_none rfl _ _ _) rfl ⟨rfl,?_,Z0.refl _ _ _⟩;rw [Z.o];exact HB.o
  | false =>
   rw [hx,if_neg (by simp)] at C;have Z:=Za C;have hus:=eN (by omega:a<r.length) hx
   have Xe:(r.set a true).length=16:=by rw [List.length_set]; exact hr
   rw [hx] at b1;have To:xQ (Z0 rb (fun b=>b=rb) w (w.setCell (aP rb (m*16+a)) (.bool true))):=(Z0.refl rb (fun b=>b=rb) w).set (xR) (fun _=>rfl) _ _;have z:=Za (HS.o.chg To.o)
   have Xa:xQ (Uz (w.setCell (aP rb (m*16+a)) (.bool true)) rb n (Fq h m (r.set a true))):=(HB.o.put hm (by omega:a<16) true).congr fun i j _ _=>(zhh h m a r (by omega) i j).symm
   have c1':=z.o.c1;have c2':=z.o.c2;have c3':=z.o.c3;have c4':=z.o.c4
   have q0:(w.setCell (aP rb (m*16+a)) (.bool true)).cell? (aP db (a*16))=some (.bool (D a 0)):=by have:=(z.o.bd.cell ha (by omega:0<16)).1; rw [Nat.add_zero] at this; exact this
   have q1:(w.setCell (aP rb (m*16+a)) (.bool true)).cell? (aP db (a*16+1))=some (.bool (D a 1)):=(z.o.bd.cell ha (by omega:1<16)).1;have q2:(w.setCell (aP rb (m*16+a)) (.bool true)).cell? (aP db (a*16+2))=some (.bool (D a 2)):=(z.o.bd.cell ha (by omega:2<16)).1;have q3:(w.setCell (aP rb (m*16+a)) (.bool true)).cell? (aP db (a*16+3))=some (.bool (D a 3)):=(z.o.bd.cell ha (by omega:3<16)).1
   have q4:(w.setCell (aP rb (m*16+a)) (.bool true)).cell? (aP db (a*16+4))=some (.bool (D a 4)):=(z.o.bd.cell ha (by omega:4<16)).1;have q5:(w.setCell (aP rb (m*16+a)) (.bool true)).cell? (aP db (a*16+5))=some (.bool (D a 5)):=(z.o.bd.cell ha (by omega:5<16)).1;have q6:(w.setCell (aP rb (m*16+a)) (.bool true)).cell? (aP db (a*16+6))=some (.bool (D a 6)):=(z.o.bd.cell ha (by omega:6<16)).1
   have q7:(w.setCell (aP rb (m*16+a)) (.bool true)).cell? (aP db (a*16+7))=some (.bool (D a 7)):=(z.o.bd.cell ha (by omega:7<16)).1;have q8:(w.setCell (aP rb (m*16+a)) (.bool true)).cell? (aP db (a*16+8))=some (.bool (D a 8)):=(z.o.bd.cell ha (by omega:8<16)).1;have q9:(w.setCell (aP rb (m*16+a)) (.bool true)).cell? (aP db (a*16+9))=some (.bool (D a 9)):=(z.o.bd.cell ha (by omega:9<16)).1
   have q10:(w.setCell (aP rb (m*16+a)) (.bool true)).cell? (aP db (a*16+10))=some (.bool (D a 10)):=(z.o.bd.cell ha (by omega:10<16)).1;have q11:(w.setCell (aP rb (m*16+a)) (.bool true)).cell? (aP db (a*16+11))=some (.bool (D a 11)):=(z.o.bd.cell ha (by omega:11<16)).1;have q12:(w.setCell (aP rb (m*16+a)) (.bool true)).cell? (aP db (a*16+12))=some (.bool (D a 12)):=(z.o.bd.cell ha (by omega:12<16)).1
   have q13:(w.setCell (aP rb (m*16+a)) (.bool true)).cell? (aP db (a*16+13))=some (.bool (D a 13)):=(z.o.bd.cell ha (by omega:13<16)).1;have q14:(w.setCell (aP rb (m*16+a)) (.bool true)).cell? (aP db (a*16+14))=some (.bool (D a 14)):=(z.o.bd.cell ha (by omega:14<16)).1;have q15:(w.setCell (aP rb (m*16+a)) (.bool true)).cell? (aP db (a*16+15))=some (.bool (D a 15)):=(z.o.bd.cell ha (by omega:15<16)).1
   have N:=fun k hk W=>zhw #[.bool (D a 0),.bool (D a 1),.bool (D a 2),.bool (D a 3),.bool (D a 4),.bool (D a 5),.bool (D a 6),.bool (D a 7),.bool (D a 8),.bool (D a 9),.bool (D a 10),.bool (D a 11),.bool (D a 12),.bool (D a 13),.bool (D a 14),.bool (D a 15)] k hk _ (zhk D a k hk) W
   have HIX:=Za N;obtain⟨r0,M⟩:=xE (r.set a true);rw [<- M] at Z hus Xe Xa;clear C hx N M;go_enter func40,ntmps40;go_wp2_with fail;clear c1 c2 c3 c4 c1' c2' c3' c4' b1 b2 q0 q1 q2 q3 q4 q5 q6 q7 q8 q9 q10 q11 q12 q13 q14 q15
   go_loopw [23] (fun i wr=>∃ k:Nat,k<=16/\i=iP k/\xQ (Uz wr rb n (Fq h m (Ep A f a r0 k)))/\xQ (Z0 rb (fun b=>b=rb) w wr)) (fun i _=>16 - (intOf i).toNat)
   case atStart=>exact⟨0,by omega,rfl,Xa.o,To.o⟩
   case round =>
    obtain⟨k,hk,rfl,HA,T⟩:=hrel;by_cases Z8:k<16
    ·have Un:(k:Int)<16:=by omega
     have N:=HIX.o k Z8;have c4:=(HS.o.chg T.o).c4;have J:=Za (lF A f a r0 k);have O:=HD.o a k ha Z8;rw [<- O] at J;have I:=zku A f a r0 Xe k (by omega);have H:=Za I;clear O I
     cases hx:D a k with
     | true =>
      have hkn:=HDn.o a k ha Z8 hx;rw [hx,if_pos rfl] at J;rw [hx] at N;clear hx;go_wp2_with fail;refine(IH.o k _ wr hkn H.o.1 (by have:=H.o.2; omega) (HS.o.chg T.o) HA.o).mono ?_;rintro e w2 ⟨rfl,Y,V⟩;have H2:=Za Y;have H3:=Za V;clear Y V;go_wp2_with fail
      go_roundw
      case rel=>exact⟨k+1,by omega,by go_num,by rw [J.o]; exact H2.o,T.o.trans H3.o fun b _ e=>e⟩
      case measure=>simp [intOf]; omega
     | false =>
      rw [hx,if_neg (by simp)] at J;rw [hx] at N;clear hx;go_wp2_with fail
      go_roundw
      case rel=>exact⟨k+1,by omega,by go_num,by rw [J.o]; exact HA.o,T.o⟩
      case measure=>simp [intOf]; omega
    ·have Un:¬ (k:Int)<16:=by omega
     have e:k=16:=by omega
     subst e;go_wp2_with fail;refine bodyPost_end (results_none rfl _ _ _) rfl ⟨rfl,?_,T.o⟩;rw [Z.o];exact HA.o
end Go.Proofs.YtoppemkjhhlegaaGreatDoor
