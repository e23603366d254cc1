/- Part. -/
import Derived.Test.YtoppemkjhhlegaaGreatDoorPart31
import Derived.Test.YtoppemkjhhlegaaGreatDoorPart32
set_option maxRecDepth 100000
set_option maxHeartbeats 4000000
namespace Go.Proofs.YtoppemkjhhlegaaGreatDoor
open Go.Proofs.Tryz
section
open Go.RowKit Go.Maps
theorem jP:∀ (l:List (Bs×Bs)) (m:Nat) (r:R1),r.names.length=r.mods.length->(K9 m l r).names.length=(K9 m l r).mods.length/\(K9 m l r).mods.length=r.mods.length+l.length
 | [],_,_,h=>⟨h,rfl⟩
 | x :: l,m,r,h=>by
  have:=jP l (m+1) ⟨r.names ++ [x.1],r.mods ++ [L6 x.2],r.ds ++ G2 m r.names x.1 x.2⟩ (by simp [h]);refine⟨this.1,this.2.trans ?_⟩;simp;omega
theorem zaw (l:List (Bs×Bs)):(Db l).names.length=(Db l).mods.length/\(Db l).mods.length<=16:=by
 unfold Db
 by_cases h:16<l.length
 ·rw [if_pos h]
  exact⟨rfl,xZ _⟩
 ·rw [if_neg h]
  obtain⟨z,j⟩:=jP l 0 ⟨[],[],[]⟩ rfl;exact⟨z,by rw [j]; simp; omega⟩
theorem zde {l:List (Bs×Bs)} {x:Lk} (h:Tc l = .inl x):(∀ o ∈ x.mods,Aq o)/\x.mods.length<=16:=by
 unfold Tc at h
 simp only at h
 split at h
 ·cases h
 rename_i h1
 have z:(Y6 l).ds=[]:=List.length_eq_zero_iff.1 (by omega)
 obtain⟨N5,Kl,hn3⟩:=pK z
 have j:∀ o ∈ (Y6 l).mods,Aq o:=by
  unfold Y6;rw [if_neg (by omega)];exact(sT (n:=l.length) l 0 L0 (by omega) (fun _ h=>nomatch h) (fun _ h=>nomatch h)).2
 split at h
 ·cases h
 split at h
 ·cases h
 split at h
 ·cases h
 injection h with h
 subst h
 exact⟨j,by show(Y6 l).mods.length<=16; omega⟩
structure LI (rb pb:Nat) (w w1 W:wD) (P:Obj):Prop where
 b:Below rb w W
 k:Below pb w1 W
 res:W.heap[rb]?=some z6
 non:W.heap[rb+1]?=some z6
 p:W.heap[pb]?=some P
 lt:rb+2<=pb
section
variable {rb pb : Nat} {w w1 W W' : wD} {P : Obj}
theorem LI.below (h:LI rb pb w w1 W P) (j:Below W.heap.size W W'):LI rb pb w w1 W' P where
 b:=h.b.trans (j.mono (Nat.le_of_lt (xB h.res)))
 k:=h.k.trans (j.mono (Nat.le_of_lt (xB h.p)))
 res:=(j.block _ (xB h.res)).trans h.res
 non:=(j.block _ (xB h.non)).trans h.non
 p:=(j.block _ (xB h.p)).trans h.p
 lt:=h.lt
theorem LI.put {cs:Array vL} {t:TypeId} (h:LI rb pb w w1 W (.cells cs t)) (o:Nat) (v:vL):LI rb pb w w1 (W.setCell (aP pb o) v) (.cells (cs.setIfInBounds o v) t):=by
 have j:Z0 rb (fun b=>b=pb) W (W.setCell (aP pb o) v):=(Z0.refl rb (fun b=>b=pb) W).set (by have:=h.lt; omega) (fun _=>rfl) o v
 have A:Z0 pb (fun b=>b=pb) W (W.setCell (aP pb o) v):=(Z0.refl pb (fun b=>b=pb) W).set (xR) (fun _=>rfl) o v
 have z:=h.lt
 exact⟨h.b.trans j.below,h.k.trans A.below,j.obj h.res (by omega),j.obj h.non (by omega),Y1 h.p,z⟩
theorem LI.two (h:LI rb pb w w1 W P):((c6 W (rb+1) nP nP nP sP (iP 0) (iP 0))/\rb+1<W.heap.size) /\
  (c6 W rb nP nP nP sP (iP 0) (iP 0)) /\
  (W.frozen? (aP rb 0)=false/\W.frozen? (aP rb 1)=false/\W.frozen? (aP rb 2)=false/\W.frozen? (aP rb 3)=false/\W.frozen? (aP rb 4)=false/\W.frozen? (aP rb 5)=false)/\rb<W.heap.size:=by
 obtain⟨A,_,F⟩:=Pc h.non
 obtain⟨z,j,C⟩:=Pc h.res
 exact⟨⟨A,F⟩,z,⟨j 0,j 1,j 2,j 3,j 4,j 5⟩,C⟩
theorem LI.bad (h:LI rb pb w w1 W P) {vD:vL} {n:Nat} {xs:List vL} (z:W.ownsRow rb 47 4 vD n xs) (A:W'=P3 W rb nP nP nP sP (iP 0) (iP 0)):W'.heap[rb]?=some z6/\Below rb w W'/\W'.ownsRow rb 47 4 vD n xs:=by
 subst A
 have j:=Oa W rb nP nP nP sP (iP 0) (iP 0)
 refine⟨Cq h.res _ _ _ _ _ _,h.b.trans j.below,j.row z fun b C e=>?_⟩
 obtain⟨c,j⟩:=Jl z C
 rw [e,h.res] at j
 injection j with j
 injection j with _ j
 cases j
theorem LI.one (h:LI rb pb w w1 W P) (d:Dg) (C:W'=(P3 W rb nP nP nP sP (iP 0) (iP 0)).alloc (.cells #[iP d.m,iP d.li,iP d.co,iP d.er] 47)):W'.heap[rb]?=some z6/\Below rb w W'/\W'.ownsRow rb 47 4 (lP W.heap.size 1 1) [d].length ([d].flatMap U3):=by
 subst C
 have A:=Oa W rb nP nP nP sP (iP 0) (iP 0)
 have z:=Cq h.res nP nP nP sP (iP 0) (iP 0)
 have H:(P3 W rb nP nP nP sP (iP 0) (iP 0)).heap.size=W.heap.size:=by simp only [Yg]
 have F:=xB z
 have j:=bQ (w:=P3 W rb nP nP nP sP (iP 0) (iP 0)) (B:=rb) (cur:=#[iP d.m,iP d.li,iP d.co,iP d.er]) (T:=47) (by omega)
 rw [H] at j
 exact⟨(xA F).trans z,(h.b.trans A.below).trans ((Zq _ _).mono (by omega)),j⟩
end
theorem FO.at {lo n m C F:Nat} {w W:wD} {j z:oA} {vD:vL} {xs:List MV} {r:R1} {X:Option Nat} (h:FO lo w (.slice j n C) (.slice z m F) vD xs r X) (A:Below w.heap.size w W):(Rl W j r.names/\yI W z r.mods)/\Tf E2 1 lo W j r.names/\Tf M4 2 lo W z r.mods :=
 ⟨⟨pU (h.below A).q.1,mods_q (h.below A).q.2⟩,(h.below A).q⟩
theorem zgd (a:oA) (cap:Nat) (l:List G1) (w:wD) (hs:Kz w.heap.size w a l) (hl:l.length<=1000) (hz:∀ p ∈ l,p.1.size<=140737488351232/\p.2.size<=140737488351232) :
  Calls prog 7 #[.slice a l.length cap] w (wZ w (Tc (Y3 l))):=by
 obtain⟨R,hR⟩:=xE (Tc (Y3 l))
 rw [<- hR]
 have HC:xQ (∀ W,Below w.heap.size w W->Calls prog 16 #[.slice a l.length cap] W fun e w'=>∃ vN vM vD xs,e = .returned (.tuple #[.agg #[vN,vM,nP,sP,iP 0,iP 0],vD])/\Below W.heap.size W w'/\FO (W.heap.size+2) w' vN vM vD xs (Db (Y3 l)) none):=fun W hb=>by
  have h:=zax a cap l W ((hs.below hb).mono hb.size) hl hz
  have e:(if 16<l.length then⟨[],[],[⟨16,1,1,19⟩]⟩else K9 0 (Y3 l) ⟨[],[],[]⟩)=Db (Y3 l):=by unfold Db; rw [show(Y3 l).length=l.length by simp]
  rw [e] at h;exact h
 have HRs:xQ (R=I1 (Db (Y3 l))):=hR.trans (zdh _).symm
 have HRg:=Za hR
 have Jd:=zaw (Y3 l)
 obtain⟨r,hr⟩:=xE (Db (Y3 l))
 rw [<- hr] at HC HRs Jd
 clear hs hz hR hr
 go_enter func7,ntmps7
 go_wp2_with fail
 obtain⟨W0,Vg⟩:=xE ((w.alloc z6).alloc z6)
 obtain⟨rb,Bp⟩:=xE w.heap.size
 have Wq:Below w.heap.size w W0:=by rw [Vg]; exact Zz (Zq _ _) (Zq _ _)
 have Jf:W0.heap.size=rb+2:=by rw [Vg,xS,xS,Bp]
 have h0:W0.heap[rb]?=some z6:=by rw [Vg,Bp]; exact(xA (by rw [xS]; omega)).trans (xL w _)
 have I:W0.heap[rb+1]?=some z6:=by rw [Vg,Bp]; exact Bg w _ _
 have F:=Vg
 unfold z6 Kq at F
 rw [<- F,<- Bp]
 refine(HC.o W0 Wq).mono ?_
 rintro e w1 ⟨vN,vM,vD,xs,rfl,Zs,O⟩
 obtain⟨Z,V,rfl⟩:=Yt O.rN
 obtain⟨aM,cM,rfl⟩:=Yt O.rM
 obtain⟨aD,cD,rfl⟩:=Yt O.rD
 obtain⟨pb,Xo⟩:=xE w1.heap.size
 have hI:LI rb pb w w1 (w1.alloc (Kq (.slice Z r.names.length V) (.slice aM r.mods.length cM) nP sP (iP 0) (iP 0))) (Kq (.slice Z r.names.length V) (.slice aM r.mods.length cM) nP sP (iP 0) (iP 0)):=by
  have Xz:rb+2<=pb:=by have:=Zs.size; omega
  refine⟨?_,?_,?_,?_,?_,Xz⟩
  ·rw [Bp]
   exact Zz (Zz Wq Zs) (Zq _ _)
  ·rw [Xo]
   exact Zq _ _
  ·exact(xA (by omega)).trans ((Zs.block _ (by omega)).trans h0)
  ·exact(xA (by omega)).trans ((Zs.block _ (by omega)).trans I)
  ·rw [Xo]
   exact xL _ _
 have Ws:r.ds.length<=9223372036854775807:=by
  rcases O.rD.2 with⟨_,e⟩ | ⟨g,c,cur,e,_,_,I,M,_⟩
  ·omega
  ·unfold maxLen at M
   omega
 have hdz:((r.ds.length:Int)<=9223372036854775807):=by omega
 have HI:=Za hI
 have M1:=Za Bp
 have HPb:=Za Xo
 have HFo:xQ (FO (rb+4) w1 (.slice Z r.names.length V) (.slice aM r.mods.length cM) (.slice aD r.ds.length cD) xs r none):=by rw [Jf] at O; exact O
 have Ys:rb+2<=pb:=hI.lt
 obtain⟨W1,hW1⟩:=xE (w1.alloc (Kq (.slice Z r.names.length V) (.slice aM r.mods.length cM) nP sP (iP 0) (iP 0)))
 rw [<- hW1] at HI
 have Ui:=Za Jd
 rename_i K1 hK1 K2 hK2
 have Pn:=Za hK1
 clear hI O Wq Zs Jf h0 I F Vg Bp HC Jd hK1
 go_wp2_with fail
 unfold Kq at hW1
 rw [<- hW1,<- Xo]
 refine Pn.o _ _ ?_
 clear Xo hW1 Pn
 by_cases hd:r.ds.length≠0
 ·have hd':(0:Int)<(r.ds.length:Int):=by omega
  have Ud:xQ (R = .inr r.ds):=HRs.o.trans (by unfold I1; rw [if_pos hd]);obtain⟨⟨⟨z0,z1,z2,z3,z4,z5⟩,hzl⟩,⟨q0,q1,q2,q3,q4,q5⟩,⟨f0,f1,f2,f3,f4,f5⟩,Py⟩:=HI.o.two;obtain⟨Wf,A⟩:=xE (P3 W1 rb nP nP nP sP (iP 0) (iP 0));have H:=Za (HI.o.bad (J9 (J8 HFo.o.rD (by rw [<- HPb.o]; exact HI.o.k)) (by omega)) A);have Qv:=Za A;clear A;go_wp2_with fail;have F:=Qv.o;unfold P3 at F
  rw [<- F];refine bodyPost_ret (Fp rfl _ rfl H.o.1 underlying31 (by kernel_rfl) rfl) rfl ?_;rw [Ud.o];exact⟨by rw [<- M1.o]; exact H.o.2.1,_,rfl,by rw [<- M1.o]; exact H.o.2.2⟩
 ·have hd':¬ (0:Int)<(r.ds.length:Int):=by omega
  obtain⟨⟨p0,p1,p2,p3,p4,p5⟩,_,hpl1⟩:=Pc HI.o.p;have F3:=Za (HFo.o.at (by rw [<- HPb.o]; exact HI.o.k)).1;obtain⟨C,hC⟩:=xE (Fr (V6 r.names) r.mods 0 r.mods [] []);have HCs:=Za hC;clear hC;go_wp2_with fail;refine(zic Z V aM cM none 0 0 ⟨#[]⟩ 0 0 r.names r.mods W1 F3.o.1 F3.o.2 Ui.o.1 Ui.o.2).mono ?_;rw [<- HCs.o];rintro e w2 ⟨vA,vE,vs,rfl,hS⟩;obtain⟨aA,T,rfl⟩:=Yt hS.rA;obtain⟨aE,cE,rfl⟩:=Yt hS.rD
  have Z5:Below W1.heap.size W1 w2:=hS.b;have Jr:=Za (HI.o.below Z5);have Uk:=Za hS
  have Fd:((C.2.length:Int)<=9223372036854775807):=by
   rcases hS.rD.2 with⟨_,e⟩ | ⟨g,c,cur,e,_,_,I,M,_⟩
   ·omega
   ·unfold maxLen at M
    omega
  clear Z5 hS F3 p0 p1 p2 p3 p4 p5;by_cases hc:C.2.length≠0
  ·have Qc:(0:Int)<(C.2.length:Int):=by omega
   have Ud:xQ (R = .inr C.2):=HRs.o.trans (by unfold I1; rw [if_neg hd,<- HCs.o,if_pos hc]);obtain⟨⟨⟨z0,z1,z2,z3,z4,z5⟩,hzl⟩,⟨q0,q1,q2,q3,q4,q5⟩,⟨f0,f1,f2,f3,f4,f5⟩,Py⟩:=Jr.o.two;obtain⟨Wf,A⟩:=xE (P3 w2 rb nP nP nP sP (iP 0) (iP 0));have H:=Za (Jr.o.bad (J9 Uk.o.rD (by have:=xB HI.o.res; omega)) A);have Qv:=Za A;clear A;go_wp2_with fail;have F:=Qv.o;unfold P3 at F
   rw [<- F];refine bodyPost_ret (Fp rfl _ rfl H.o.1 underlying31 (by kernel_rfl) rfl) rfl ?_;rw [Ud.o];exact⟨by rw [<- M1.o]; exact H.o.2.1,_,rfl,by rw [<- M1.o]; exact H.o.2.2⟩
  ·have Qc:¬ (0:Int)<(C.2.length:Int):=by omega
   obtain⟨⟨p0,p1,p2,p3,p4,p5⟩,pf,hpl2⟩:=Pc Jr.o.p;have f2:=pf 2;have HI3:xQ (LI rb pb w w1 (w2.setCell (aP pb 2) (.slice aA vs.length T)) (Kq (.slice Z r.names.length V) (.slice aM r.mods.length cM) (.slice aA vs.length T) sP (iP 0) (iP 0))):=Jr.o.put 2 (.slice aA vs.length T)
   have HSr:xQ ((w2.setCell (aP pb 2) (.slice aA vs.length T)).ownsRow (rb+1) 42 1 (.slice aA vs.length T) vs.length vs/\∀ i (I:i<vs.length) (M:i<C.1.length),(w2.setCell (aP pb 2) (.slice aA vs.length T)).ownsRow (rb+1) 29 3 vs[i] C.1[i].length (C.1[i].flatMap Qa)):=by
    have Xz:=xB HI.o.p;have Uo:=xB HI.o.res;exact⟨J9 (ownsRow_setCell_below Uk.o.rA (a:=aP pb 2) (by show pb<_; omega) _) (by omega),fun i I M=>J9 (ownsRow_setCell_below (Uk.o.rs i I M) (a:=aP pb 2) (by show pb<_; omega) _) (by omega)⟩
   have HLs:=Za Uk.o.ln;obtain⟨W2,Qo⟩:=xE (w2.setCell (aP pb 2) (.slice aA vs.length T));rw [<- Qo] at HI3 HSr;have HW2:=Za Qo;clear pf Qo Uk HI Jr;go_wp2_with fail;rw [<- HW2.o];have HQ3:=Za (HFo.o.at (by rw [<- HPb.o]; exact HI3.o.k)).1;obtain⟨Y,hY⟩:=xE (G5 (V6 r.names) r.mods 0 r.mods []);have HYs:=Za hY;refine(zjl Z V aM cM aA vs.length T ⟨#[]⟩ 0 0 r.names r.mods W2 HQ3.o.1 HQ3.o.2.to Ui.o.1 Ui.o.2).mono ?_
   rw [<- HYs.o];rintro e w3 ⟨vY,rfl,hrY,Ts⟩;obtain⟨aY,cY,rfl⟩:=Yt hrY;have Gt:=Za (HI3.o.below Ts);have HRy:xQ (w3.ownsRow W2.heap.size 47 4 (.slice aY Y.length cY) Y.length (Y.flatMap U3)):=hrY
   have HSr4:xQ (w3.ownsRow (rb+1) 42 1 (.slice aA vs.length T) vs.length vs/\∀ i (I:i<vs.length) (M:i<C.1.length),w3.ownsRow (rb+1) 29 3 vs[i] C.1[i].length (C.1[i].flatMap Qa)):=⟨J8 HSr.o.1 Ts,fun i I M=>J8 (HSr.o.2 i I M) Ts⟩
   have Ab:((Y.length:Int)<=9223372036854775807):=by
    rcases hrY.2 with⟨_,e⟩ | ⟨g,c,cur,e,_,_,I,M,_⟩
    ·omega
    ·unfold maxLen at M
     omega
   have hlW:=xB HI3.o.res;clear hY hrY Ts HQ3 HSr p0 p1 p2 p3 p4 p5 f2 HW2 hpl2 HI3;by_cases hy:Y.length≠0
   ·have J4:(0:Int)<(Y.length:Int):=by omega
    have Ud:xQ (R = .inr Y):=HRs.o.trans (by unfold I1; rw [if_neg hd,<- HCs.o,if_neg hc,<- HYs.o,if_pos hy]);obtain⟨⟨⟨z0,z1,z2,z3,z4,z5⟩,hzl⟩,⟨q0,q1,q2,q3,q4,q5⟩,⟨f0,f1,f2,f3,f4,f5⟩,Py⟩:=Gt.o.two;obtain⟨Wf,A⟩:=xE (P3 w3 rb nP nP nP sP (iP 0) (iP 0));have H:=Za (Gt.o.bad (J9 HRy.o (by omega)) A);have Qv:=Za A;clear A;go_wp2_with fail;have F:=Qv.o;unfold P3 at F
    rw [<- F];refine bodyPost_ret (Fp rfl _ rfl H.o.1 underlying31 (by kernel_rfl) rfl) rfl ?_;rw [Ud.o];exact⟨by rw [<- M1.o]; exact H.o.2.1,_,rfl,by rw [<- M1.o]; exact H.o.2.2⟩
   ·have J4:¬ (0:Int)<(Y.length:Int):=by omega
    have HRm:xQ (R=match I2 (V6 r.names) r.mods with | .inr d => .inr [d] | .inl m => .inl ⟨r.names,r.mods,C.1,m⟩):=HRs.o.trans (by unfold I1; rw [if_neg hd,<- HCs.o,if_neg hc,<- HYs.o,if_neg hy]; rfl);obtain⟨⟨p0,p1,p2,p3,p4,p5⟩,pf,hpl4⟩:=Pc Gt.o.p;have HQ4:=Za (HFo.o.at (by rw [<- HPb.o]; exact Gt.o.k)).1
    have Yb:((r.names.length:Int)<=9223372036854775807):=by have:=Ui.o; omega
    obtain⟨mx,hmx⟩:=xE (V6 r.names R9)
    have Gu:xQ (Calls prog 19 #[.slice Z r.names.length V,.string Uc] w3 fun e w'=>e = .returned (iP (B9 mx))/\w'=w3):=by
     rw [hmx];exact uF Z V r.names Uc w3 HQ4.o.1 Yb
    have HMx:=Za hmx;clear hmx pf HYs HRy;go_wp2_with fail;refine Gu.o.mono ?_;intro e w4 hp;obtain⟨I,M⟩:=hp;rw [I,M];clear I M Gu
    cases mx with
    | none =>
     have Ud:xQ (R = .inr [⟨0,1,1,14⟩]):=HRm.o.trans (by unfold I2; rw [<- HMx.o]);rw [show B9 none=(-1:Int) from rfl];obtain⟨⟨⟨z0,z1,z2,z3,z4,z5⟩,hzl⟩,⟨q0,q1,q2,q3,q4,q5⟩,⟨f0,f1,f2,f3,f4,f5⟩,Py⟩:=Gt.o.two;obtain⟨Wf,A⟩:=xE ((P3 w3 rb nP nP nP sP (iP 0) (iP 0)).alloc (.cells #[iP 0,iP 1,iP 1,iP 14] 47));have H:=Za (Gt.o.one ⟨0,1,1,14⟩ A);have Qv:=Za A
     clear A;go_wp2_with fail;have F:=Qv.o;unfold P3 at F;rw [<- F];refine bodyPost_ret (Fp rfl _ rfl H.o.1 underlying31 (by kernel_rfl) rfl) rfl ?_;rw [Ud.o];exact⟨by rw [<- M1.o]; exact H.o.2.1,_,rfl,by rw [<- M1.o]; exact H.o.2.2⟩
    | some m =>
     have hm0:¬ (m:Int)<0:=by omega
     have Uu:m<r.mods.length:=by
      have:=(List.findIdx?_eq_some_iff_getElem.1 HMx.o.symm).1;have:=Ui.o.1;omega
     have hml':(m:Int)<(r.mods.length:Int):=by omega
     have hmz:((r.mods.length:Int)<=9223372036854775807):=by have:=Ui.o; omega
     have HQr:=Za (HFo.o.at (by rw [<- HPb.o]; exact Gt.o.k)).2.2;obtain⟨g,G9,_,Gb,c,_,hcc,x,rfl,hx1,hx2,hx3,hx4,_,hxd,_⟩:=Re HQr.o Uu;subst G9;obtain⟨o,ho⟩:=xE (r.mods[m]);rw [<- ho] at hx1 hx2 hx3 hx4 hxd
     have hog:r.mods.getD m Jh=o:=by rw [ho,List.getD_eq_getElem?_getD,List.getElem?_eq_getElem Uu,Option.getD_some]
     have t0:w3.cell? (aP g (m*2))=some (.slice x.ia x.il x.ic):=hcc 0 (by omega)
     have t1:w3.cell? (aP g (m*2+1))=some (.slice x.da o.ds.length x.dc):=by
      have:=hcc 1 (by omega);rw [hx2] at this;exact this
     obtain⟨dx,hdx⟩:=xE (K6 o.ds R9)
     have HDc:xQ (Calls prog 20 #[.agg #[.slice x.ia x.il x.ic,.slice x.da o.ds.length x.dc],.string Uc] w3 fun e w'=>e = .returned (iP (B9 dx))/\Below w3.heap.size w3 w'):=by
      rw [hdx];exact kL x.ia x.il x.ic x.da x.dc o.ds Uc w3 (kU hxd).to (by omega)
     have HDx:=Za hdx;have HXd:=Za hxd;have HOg:=Za hog;rw [show B9 (some m)=(m:Int) from rfl];clear hcc hx1 hx2 hx3 hxd hdx ho hog HQ4 HQr;go_wp2_with fail;refine HDc.o.mono ?_;intro e z hp;obtain⟨I,Th⟩:=hp;rw [I];have D7:=Za (Gt.o.below Th);have Vm:=Za Th;clear I Th HDc
     cases dx with
     | none =>
      have Ud:xQ (R = .inr [⟨m,1,1,14⟩]):=HRm.o.trans (by unfold I2; rw [<- HMx.o]; simp only [HOg.o]; rw [<- HDx.o]);rw [show B9 none=(-1:Int) from rfl];obtain⟨⟨⟨z0,z1,z2,z3,z4,z5⟩,hzl⟩,⟨q0,q1,q2,q3,q4,q5⟩,⟨f0,f1,f2,f3,f4,f5⟩,Py⟩:=D7.o.two;obtain⟨Wf,A⟩:=xE ((P3 z rb nP nP nP sP (iP 0) (iP 0)).alloc (.cells #[iP m,iP 1,iP 1,iP 14] 47));have H:=Za (D7.o.one ⟨m,1,1,14⟩ A)
      have Qv:=Za A;clear A;go_wp2_with fail;have F:=Qv.o;unfold P3 at F;rw [<- F];refine bodyPost_ret (Fp rfl _ rfl H.o.1 underlying31 (by kernel_rfl) rfl) rfl ?_;rw [Ud.o];exact⟨by rw [<- M1.o]; exact H.o.2.1,_,rfl,by rw [<- M1.o]; exact H.o.2.2⟩
     | some k =>
      rw [show B9 (some k)=(k:Int) from rfl]
      have hk0:¬ (k:Int)<0:=by omega
      have Z8:k<o.ds.length:=kX HDx.o.symm
      have Un:(k:Int)<(o.ds.length:Int):=by omega
      obtain⟨J,hda,_,Mv,c,_,Xk,y,rfl,hvs⟩:=Re HXd.o Z8;rw [hda] at t1;obtain⟨d,hdd⟩:=xE (o.ds[k])
      have Tk:o.ds.getD k Ed=d:=by rw [hdd,List.getD_eq_getElem?_getD,List.getElem?_eq_getElem Z8,Option.getD_some]
      rw [<- hdd] at Xk hvs
      have N:∀ j,j<15->z.cell? (aP J (k*15+j))=(decC y d)[j]?:=fun j hj=>(Vm.o.cell (p:=aP J _) Mv).trans (Xk j hj)
      have s1:z.cell? (aP g (m*2+1))=some (lP J o.ds.length x.dc):=(Vm.o.cell (p:=aP g _) Gb).trans t1;have d0:z.cell? (aP J (k*15))=some (uP d.nm):=N 0 (by omega);have d1:z.cell? (aP J (k*15+1))=some (.bool d.ex):=N 1 (by omega);have d2:z.cell? (aP J (k*15+2))=some (.slice y.va d.vs y.vc):=N 2 (by omega);have d3:z.cell? (aP J (k*15+3))=some (.string y.pm):=N 3 (by omega)
      have d4:z.cell? (aP J (k*15+4))=some (.slice y.ta 2 y.tc):=N 4 (by omega);have d5:z.cell? (aP J (k*15+5))=some (iP y.k):=N 5 (by omega);have d6:z.cell? (aP J (k*15+6))=some (.string y.tx):=N 6 (by omega);have d7:z.cell? (aP J (k*15+7))=some (iP y.n):=N 7 (by omega);have d8:z.cell? (aP J (k*15+8))=some (iP y.a):=N 8 (by omega);have d9:z.cell? (aP J (k*15+9))=some (iP y.b):=N 9 (by omega)
      have d10:z.cell? (aP J (k*15+10))=some (.slice y.xa y.xl y.xc):=N 10 (by omega);have d11:z.cell? (aP J (k*15+11))=some (.slice y.ya y.yl y.yc):=N 11 (by omega);have d12:z.cell? (aP J (k*15+12))=some (.slice y.za y.zl y.zc):=N 12 (by omega);have d13:z.cell? (aP J (k*15+13))=some (iP d.li):=N 13 (by omega);have d14:z.cell? (aP J (k*15+14))=some (iP d.co):=N 14 (by omega)
      have hgl5:g<z.heap.size:=xT Gb Vm.o.size;have hgd5:J<z.heap.size:=xT Mv Vm.o.size
      have hdz2:((o.ds.length:Int)<=9223372036854775807):=by omega
      have hvz:((d.vs:Int)<=9223372036854775807):=by omega
      have HDg:=Za Tk;obtain⟨⟨p0,p1,p2,p3,p4,p5⟩,pf,hpl5⟩:=Pc D7.o.p;clear hdd Tk Xk N t0 t1;by_cases hv:0<d.vs
      ·have Gh:(0:Int)<(d.vs:Int):=by omega
       have Ud:xQ (R = .inr [⟨m,d.li,d.co,14⟩]):=HRm.o.trans (by unfold I2; rw [<- HMx.o]; simp only [HOg.o]; rw [<- HDx.o]; simp only [HDg.o]; rw [if_pos hv]);have Wa:xQ (LI rb pb w w1 (z.alloc (G7 y d)) (Kq (.slice Z r.names.length V) (lP g r.mods.length cM) (.slice aA vs.length T) sP (iP 0) (iP 0))):=D7.o.below (Zq _ _);have HD6:xQ ((z.alloc (G7 y d)).heap[z.heap.size]?=some (G7 y d)):=xL _ _
       obtain⟨W6,hW6⟩:=xE (z.alloc (G7 y d));obtain⟨db,N3⟩:=xE z.heap.size;rw [<- hW6] at Wa HD6;rw [<- N3] at HD6;have HW6:=Za hW6;have HDb:=Za N3;clear hW6 N3 pf;go_wp2_with fail;have F:=HW6.o;unfold G7 at F;rw [<- F,<- HDb.o];clear F HW6 HDb d0 d1 d2 d3 d4 d5 d6 d7 d8 d9 d10 d11 d12 d13 d14 s1 p0 p1 p2 p3 p4 p5
       have d13:W6.cell? (aP db 13)=some (iP d.li):=by have:=HD6.o; simp [World.cell?,this]
       have d14:W6.cell? (aP db 14)=some (iP d.co):=by have:=HD6.o; simp [World.cell?,this]
       have d13d:W6.drew.cell? (aP db 13)=some (iP d.li):=d13;have d14d:W6.drew.cell? (aP db 14)=some (iP d.co):=d14;have hdl6:=xB HD6.o;obtain⟨⟨⟨z0,z1,z2,z3,z4,z5⟩,hzl⟩,⟨q0,q1,q2,q3,q4,q5⟩,⟨f0,f1,f2,f3,f4,f5⟩,Py⟩:=Wa.o.two;have z0d:W6.drew.cell? (aP (rb+1) 0)=some nP:=z0;have q0d:W6.drew.cell? (aP rb 0)=some nP:=q0;have f0d:W6.drew.frozen? (aP rb 0)=false:=f0
       obtain⟨Wf,A⟩:=xE ((P3 W6 rb nP nP nP sP (iP 0) (iP 0)).alloc (.cells #[iP m,iP d.li,iP d.co,iP 14] 47));have H:=Za (Wa.o.one ⟨m,d.li,d.co,14⟩ A);have Qv:=Za A;clear A
       apply wA Wf.drew
       ·go_region
        all_goals
         refine⟨rfl,?_⟩;rw [Qv.o]
       ·simp only [Exit.then]
        go_wp2_with fail;refine bodyPost_ret (Fp rfl _ rfl (show Wf.drew.heap[rb]?=some z6 from H.o.1) underlying31 (by kernel_rfl) rfl) rfl ?_;rw [Ud.o];exact⟨by rw [<- M1.o]; exact H.o.2.1.drew,_,rfl,by rw [<- M1.o]; exact H.o.2.2⟩
      ·have Gh:¬ (0:Int)<(d.vs:Int):=by omega
       have Ud:xQ (R = .inl ⟨r.names,r.mods,C.1,(m,k)⟩):=HRm.o.trans (by unfold I2; rw [<- HMx.o]; simp only [HOg.o]; rw [<- HDx.o]; simp only [HDg.o]; rw [if_neg hv]);have g3:=pf 3;have g4:=pf 4;have g5:=pf 5;obtain⟨_,⟨q0,q1,q2,q3,q4,q5⟩,⟨f0,f1,f2,f3,f4,f5⟩,Py⟩:=D7.o.two
       have hrp:rb≠pb:=by omega
       obtain⟨Wf,A⟩:=xE ((P3 (((z.setCell (aP pb 3) (.string Uc)).setCell (aP pb 4) (iP m)).setCell (aP pb 5) (iP k)) rb (.slice Z r.names.length V) (lP g r.mods.length cM) (.slice aA vs.length T) (.string Uc) (iP m) (iP k)).alloc (G7 y d));have Qv:=Za A
       have HC:xQ (Z0 rb (fun b=>b=rb∨b=pb) z Wf):=by
        rw [A];exact((((((((((Z0.refl rb (fun b=>b=rb∨b=pb) z).set (by omega) (fun _ => .inr rfl) 3 _).set (by omega) (fun _ => .inr rfl) 4 _).set (by omega) (fun _ => .inr rfl) 5 _).set (xR) (fun _ => .inl rfl) 0 _).set (xR) (fun _ => .inl rfl) 1 _).set (xR) (fun _ => .inl rfl) 2 _).set (xR) (fun _ => .inl rfl) 3 _).set (xR) (fun _ => .inl rfl) 4 _).set (xR) (fun _ => .inl rfl) 5 _).alloc (by simp only [Yg]; omega) _
       have H:xQ (Wf.heap[rb]?=some (Kq (.slice Z r.names.length V) (lP g r.mods.length cM) (.slice aA vs.length T) (.string Uc) (iP m) (iP k))):=by
        rw [A];have h:=Cq (((D7.o.put 3 (.string Uc)).put 4 (iP m)).put 5 (iP k)).res (.slice Z r.names.length V) (lP g r.mods.length cM) (.slice aA vs.length T) (.string Uc) (iP m) (iP k);exact(xA (xB h)).trans h
       have HRow:xQ (∀ b e n (v:vL) (xs:List vL) (q:Nat),e≠31->z.ownsRow b e q v n xs->Wf.ownsRow b e q v n xs):=fun b e n v xs q he hr=>HC.o.row hr fun u hu e'=>by
        obtain⟨cur,Di⟩:=Jl hr hu;rcases e' with rfl | rfl
        ·rw [D7.o.res] at Di
         injection Di with Di;injection Di with _ Di;exact he Di.symm
        ·rw [D7.o.p] at Di
         injection Di with Di;injection Di with _ Di;exact he Di.symm
       clear A pf;go_wp2_with fail;have F:=Qv.o;unfold P3 G7 at F;rw [<- F];refine bodyPost_ret (Fp rfl _ rfl H.o underlying31 (by kernel_rfl) rfl) rfl ?_;rw [Ud.o];have Bi:=zde (HRg.o.symm.trans Ud.o);have hQ:=HFo.o.q;have hsz:w1.heap.size<=Wf.heap.size:=Nat.le_trans D7.o.k.size HC.o.size
       have J3:∀ b,rb+4<=b->b<w1.heap.size->Wf.heap[b]?=w1.heap[b]?:=fun b hb hl=>by
        have Xo:=HPb.o;have h5:=D7.o.k.size;exact(HC.o.keep b (by omega) (by omega)).trans (D7.o.k.block b (by omega))
       refine⟨?_,⟨Z,V,some (aP g 0),cM,none,0⟩,aA,T,vs,?_,?_⟩
       ·rw [<- M1.o]
        exact D7.o.b.trans HC.o.below
       ·rw [HLs.o]
        rfl
       ·rw [<- M1.o]
        refine⟨Ej wQ (L8 wQ hQ.1 hsz J3) (by omega),Ej Cn (L8 Cn hQ.2 hsz J3) (by omega),?_,fun i I M=>?_,Bi.1,Bi.2⟩
        ·have:=HRow.o _ _ _ _ _ _ (by decide) (J8 HSr4.o.1 Vm.o)
         rw [HLs.o] at this;exact J9 this (by omega)
        ·exact J9 (HRow.o _ _ _ _ _ _ (by decide) (J8 (HSr4.o.2 i I M) Vm.o)) (by omega)
end
section
open Go.RowKit

end
section
open Go.RowKit Go.Maps
def mJ (w:wD) (a:oA) (es:List En):Prop:=∀ k,k<es.length->∃ g,a=some (aP g 0)/\g<w.heap.size/\∀ j,j<3->w.cell? (aP g (k*3+j))=(Qa (es.getD k ⟨[],0,0⟩))[j]?
theorem zao (a b:oA) (H F:Nat) (es:List En) (w:wD) (ha:mJ w a es) (A:mJ w b es) (hl:(es.length:Int)<=9223372036854775807) :
  Calls prog 10 #[.slice a es.length H,.slice b es.length F] w fun e w'=>e = .returned (.bool true)/\∃ q,w'=w.drewN q:=by
 have J:=Za ha
 have C:=Za A
 clear ha A
 go_enter func10,ntmps10
 go_wp2_with fail
 go_loopw [5] (fun i wr=>∃ k q:Nat,k<=es.length/\i=iP k/\wr=w.drewN q) (fun i _=>es.length - (intOf i).toNat)
 case atStart=>exact⟨0,0,by omega,rfl,rfl⟩
 case round =>
  obtain⟨k,q,hk,rfl,rfl⟩:=hrel;have Bx:xQ (Below w.heap.size w (w.drewN q)):=below_drewN (Below.refl _ _) q;by_cases z:k<es.length
  ·have I:(k:Int)<(es.length:Int):=by omega
   obtain⟨g,rfl,hg,h⟩:=J.o k z;obtain⟨g',rfl,Qp,Qc⟩:=C.o k z;obtain⟨E,j⟩:=xE (es.getD k ⟨[],0,0⟩);rw [<- j] at h Qc;have t0:w.cell? (aP g (k*3))=some (uP E.nm):=h 0 (by omega);have t1:w.cell? (aP g (k*3+1))=some (iP E.m):=h 1 (by omega);have t2:w.cell? (aP g (k*3+2))=some (iP E.d):=h 2 (by omega);have q0:w.cell? (aP g' (k*3))=some (uP E.nm):=Qc 0 (by omega)
   have q1:w.cell? (aP g' (k*3+1))=some (iP E.m):=Qc 1 (by omega);have q2:w.cell? (aP g' (k*3+2))=some (iP E.d):=Qc 2 (by omega);clear h Qc j;go_wp2_with fail
   go_quiet(fail)
   all_goals go_wp2_with fail
   exact⟨⟨k+1,_,by omega,by go_num,rfl⟩,by simp [intOf]; omega⟩
  ·have I:¬ (k:Int)<(es.length:Int):=by omega
   go_wp2_with fail;go_ret;exact⟨rfl,q,rfl⟩
theorem zdf {l:List (Bs×Bs)} {x:Lk} (h:Tc l = .inl x):x.names.length=l.length/\x.mods.length=l.length:=by
 unfold Tc at h
 simp only at h
 split at h
 ·cases h
 rename_i h1
 have j:(Y6 l).ds=[]:=List.length_eq_zero_iff.1 (by omega)
 obtain⟨z,Kl,hn3⟩:=pK j
 obtain⟨A,Su⟩:=zgr j
 split at h
 ·cases h
 split at h
 ·cases h
 split at h
 ·cases h
 injection h with h
 subst h
 exact⟨A,z⟩
end
section
open Go.RowKit
theorem dE {w:wD} {na:oA} {ns:List (bS)} (h:Id w na ns) {i:Nat} (j:i<ns.length):∃ b o,na=some (aP b o)/\b<w.heap.size/\w.cell? (aP b (o+i))=some (.string ⟨ns[i].toArray⟩):=by
 rcases h with rfl | ⟨b,o,e,A,z⟩
 ·cases j
 ·exact⟨b,o,e,A,z i j⟩
theorem bW (na nb:oA) (J I:Nat) (ns:List (bS)) (w:wD) (ha:Id w na ns) (A:Id w nb ns) (hl:ns.length<=140737488351232) :
  Calls prog 21 #[.slice na ns.length J,.slice nb ns.length I] w fun e w'=>e = .returned (.bool true)/\∃ q,w'=w.drewN q:=by
 have N:=Za ha
 have F:=Za A
 have e1:((ns.length:Int) != (ns.length:Int))=false:=by simp
 clear ha A
 go_enter func21,ntmps21
 go_wp2_with fail
 go_loopw [5] (fun i wx=>∃ j q:Nat,i=iP j/\j<=ns.length/\wx=w.drewN q) (fun i _=>ns.length - (intOf i).toNat)
 case atStart=>exact⟨0,0,rfl,xZ _,rfl⟩
 case round =>
  obtain⟨j,q,rfl,hj,rfl⟩:=hrel;by_cases z:j<ns.length
  ·have M:(j:Int)<(ns.length:Int):=by omega
   obtain⟨b,o,rfl,Yo,H⟩:=dE N.o z;obtain⟨b',o',rfl,hbl',Qc⟩:=dE F.o z
   obtain⟨h,C⟩:∃ h:ByteArray,h=⟨ns[j].toArray⟩:=⟨_,rfl⟩
   (try unfold uP at H);(try unfold uP at Qc);rw [<- C] at H Qc
   have e5:(h.toList == h.toList)=true:=by simp
   clear C;go_wp2_with fail
   go_quiet(fail)
   go_wp2_with fail;exact⟨⟨j+1,_,by go_num,by omega,rfl⟩,by simp [intOf]; omega⟩
  ·have M:¬ (j:Int)<(ns.length:Int):=by omega
   go_wp2_with fail;go_ret;exact⟨rfl,q,rfl⟩
def lR (n:Nat):Prop:=∀ (va vb:vL) (D:Ty) (w:wD),Ig w false n va D->Ig w false n vb D->Calls prog 33 #[va,vb] w fun e w'=>e = .returned (.bool true)/\Below w.heap.size w w'
theorem nE (n:Nat) (Z:lR n) (ka kb:oA) (ca cb:Nat) (ks:List Ty) (w:wD) (ha:yH w false n ka ks) (hb:yH w false n kb ks) (hl:ks.length<=140737488351232) :
  Calls prog 34 #[.slice ka ks.length ca,.slice kb ks.length cb] w fun e w'=>e = .returned (.bool true)/\Below w.heap.size w w':=by
 have HA:=Za ha
 have HB:=Za hb
 have IH:=Za Z
 have e1:((ks.length:Int) != (ks.length:Int))=false:=by simp
 clear ha hb Z
 go_enter func34,ntmps34
 go_wp2_with fail
 go_loopw [5] (fun i wx=>∃ j:Nat,i=iP j/\j<=ks.length/\xQ (Below w.heap.size w wx)) (fun i _=>ks.length - (intOf i).toNat)
 case atStart=>exact⟨0,rfl,xZ _,Below.refl _ _⟩
 case round =>
  obtain⟨j,rfl,hj,N⟩:=hrel;by_cases Y:j<ks.length
  ·have Qe:(j:Int)<(ks.length:Int):=by omega
   obtain⟨b,o,V,H,z,J,C,A,I,F,rfl,O,q0,q1,q2,q3,Uv⟩:=fA HA.o Y;obtain⟨b',o',k2,nm2,na2,nl2,nc2,la2,ll2,lc2,rfl,Z5,p0,p1,p2,p3,ht2⟩:=fA HB.o Y
   have Ho:xQ (∀ wx,Below wr.heap.size wr wx->wx.cell? (aP b (o+j*4))=some (iP V)/\wx.cell? (aP b (o+j*4+1))=some (.string H)/\wx.cell? (aP b (o+j*4+2))=some (.slice z J C)/\wx.cell? (aP b (o+j*4+3))=some (.slice A I F)/\d4 wx b' (o'+j*4) (iP k2) (.string nm2) (.slice na2 nl2 nc2) (.slice la2 ll2 lc2)):=fun wx M=>by
    have h:=Zz N.o M;exact⟨(h.cell (p:=(aP b (o+j*4))) O).trans q0,(h.cell (p:=(aP b (o+j*4+1))) O).trans q1,(h.cell (p:=(aP b (o+j*4+2))) O).trans q2,(h.cell (p:=(aP b (o+j*4+3))) O).trans q3,(h.cell (p:=(aP b' (o'+j*4))) Z5).trans p0,(h.cell (p:=(aP b' (o'+j*4+1))) Z5).trans p1,(h.cell (p:=(aP b' (o'+j*4+2))) Z5).trans p2,(h.cell (p:=(aP b' (o'+j*4+3))) Z5).trans p3⟩
   have HC:xQ (∀ wx,Below wr.heap.size wr wx->Calls prog 33 #[.agg #[iP V,.string H,.slice z J C,.slice A I F],.agg #[iP k2,.string nm2,.slice na2 nl2 nc2,.slice la2 ll2 lc2]] wx fun e w'=>e = .returned (.bool true)/\Below wr.heap.size wr w'):=fun wx M =>
    (IH.o _ _ ks[j] wx (tD Uv (Zz N.o M)) (tD ht2 (Zz N.o M))).mono fun e w' ⟨e1,e2⟩=>⟨e1,Zz M e2⟩
   have Uq:=Ho.o wr.drew (Below.refl _ _).drew;clear q0 q1 q2 q3 p0 p1 p2 p3 Uv ht2;go_wp2_with fail
   go_region_held (fun W=>W.cell? (aP b (o+j*4))=some (iP V)/\W.cell? (aP b (o+j*4+1))=some (.string H)/\W.cell? (aP b (o+j*4+2))=some (.slice z J C)/\W.cell? (aP b (o+j*4+3))=some (.slice A I F)/\d4 W b' (o'+j*4) (iP k2) (.string nm2) (.slice na2 nl2 nc2) (.slice la2 ll2 lc2)) (assumption) (first
    | (go_at_call 33; refine(HC.o _ (by first | exact Below.refl _ _ | exact below_drewN (Below.refl _ _) _ | exact(Below.refl _ _).drew)).mono ?_; rintro e w5 ⟨rfl,T⟩; have t5:=Ho.o _ T; have Vm:=Za T; clear T))
   all_goals go_wp2_with fail
   all_goals exact⟨⟨j+1,by go_num,by omega,Zz N.o Vm.o⟩,by simp [intOf]; omega⟩
  ·have Qe:¬ (j:Int)<(ks.length:Int):=by omega
   go_wp2_with fail;go_ret;exact⟨rfl,N.o⟩
theorem pH:∀ n,lR n
 | 0=>fun _ _ _ _ h=>h.elim
 | n+1=>fun va vb D w h h'=>by
  obtain⟨k,nm,na,nc,ka,kc,ns,ks,rfl,rfl,_,_,_,⟨_,Z⟩,⟨_,V⟩,C,N⟩:=h;obtain⟨k',nm',na',nc',ka',kc',ns',ks',rfl,e,_,_,_,_,_,hns',hks'⟩:=h';obtain⟨rfl,I,rfl,rfl⟩:=f9 e
  obtain rfl:nm=nm':=by cases nm; cases nm'; simp at I; rw [I]
  have Xz:ns.length<=140737488351232:=Z;have Uo:ks.length<=140737488351232:=V;have A:Below w.heap.size w ((w.alloc (Z7 k nm na ns.length nc ka ks.length kc)).alloc (Z7 k nm na' ns.length nc' ka' ks.length kc')):=Zz (Zq _ _) (Zq _ _);obtain⟨W,F⟩:=xE ((w.alloc (Z7 k nm na ns.length nc ka ks.length kc)).alloc (Z7 k nm na' ns.length nc' ka' ks.length kc'))
  have j:W.heap[w.heap.size]?=some (Z7 k nm na ns.length nc ka ks.length kc):=by rw [F]; exact(xA (by simp)).trans (xL w _)
  have z:W.heap[w.heap.size+1]?=some (Z7 k nm na' ns.length nc' ka' ks.length kc'):=by rw [F]; exact Bg w _ _
  rw [<- F] at A;have U0:=Za (bW na na' nc nc' ns W (zP C A) (zP hns' A) Xz)
  have To:xQ (∀ wx,Below W.heap.size W wx->Calls prog 34 #[.slice ka ks.length kc,.slice ka' ks.length kc'] wx fun e w'=>e = .returned (.bool true)/\Below wx.heap.size wx w'):=fun wx H=>nE n (pH n) ka ka' kc kc' ks wx (xG N (Zz A H)) (xG hks' (Zz A H)) Uo
  have Sj:=Za j;have Sk:=Za z
  have B1:xQ (∀ w1,(∃ q,w1=W.drewN q)->xQ (Below W.heap.size W w1)/\xQ (∀ wx,Below w1.heap.size w1 wx->wx.cell? (aP w.heap.size 0)=some (iP k)/\wx.cell? (aP w.heap.size 1)=some (.string nm)/\wx.cell? (aP w.heap.size 3)=some (.slice ka ks.length kc)/\wx.cell? (aP (w.heap.size+1) 0)=some (iP k)/\wx.cell? (aP (w.heap.size+1) 1)=some (.string nm)/\wx.cell? (aP (w.heap.size+1) 3)=some (.slice ka' ks.length kc'))):=by
   rintro w1 ⟨q,rfl⟩;refine⟨below_drewN (Below.refl _ _) _,fun wx H=>?_⟩;have hB:=Zz (below_drewN (Below.refl W.heap.size W) q) H
   have hs:W.heap.size=w.heap.size+2:=by rw [F]; simp
   have ha:∀ o,wx.cell? (aP w.heap.size o)=W.cell? (aP w.heap.size o):=fun o=>hB.cell (p:=aP w.heap.size o) (by show w.heap.size<W.heap.size; omega)
   have M:∀ o,wx.cell? (aP (w.heap.size+1) o)=W.cell? (aP (w.heap.size+1) o):=fun o=>hB.cell (p:=(aP (w.heap.size+1) o)) (by show w.heap.size+1<W.heap.size; omega)
   rw [ha,ha,ha,M,M,M];simp [World.cell?,j,z,Z7]
  have Ks:=Za A;subst F
  have e3:(nm.toList == nm.toList)=true:=by simp
  clear C hns' N hks' A j z e I Z V;go_enter func33,ntmps33;go_wp2_with fail;refine U0.o.mono ?_;rintro e w1 ⟨rfl,Y⟩;obtain⟨T,O⟩:=B1.o _ Y;obtain⟨a0,a1,a3,b0,b1,b3⟩:=O.o w1 (Below.refl _ _);clear Y;go_wp2_with fail;refine(To.o w1 T.o).mono ?_;rintro e w2 ⟨rfl,J⟩;obtain⟨a0,a1,a3,b0,b1,b3⟩:=O.o w2 J;have Xa:=Za J;clear J;go_wp2_with fail;go_ret
  exact⟨rfl,Zz Ks.o (Zz T.o Xa.o)⟩
theorem bZ {w:wD} {lo n:Nat} {v:vL} {D:Ty} (h:K0 w lo n v D):Ig w false n v D:=by
 induction n generalizing v D with
 | zero=>exact h.elim
 | succ n ih =>
  obtain⟨k,nm,na,nc,ka,kc,ns,ks,A,h2,N,T,F,J,V,Z,j⟩:=h;refine⟨k,nm,na,nc,ka,kc,ns,ks,A,h2,N,T,F,J,V,Z.at,?_⟩;rcases j with j | ⟨b,o,e,_,z,I⟩
  ·exact .inl j
  ·refine .inr ⟨b,o,e,Lq z,l8 z,(fun e=>by cases e),fun i Y=>?_⟩
   obtain⟨c0,c1,c2,c3,C,e1,H,M,O⟩:=I i Y;exact⟨c0,c1,c2,c3,C,e1,H,M,ih O⟩
theorem qL {w:wD} {lo n:Nat} {ka:oA} {ks:List Ty} (h:Qk w lo n ka ks):yH w false n ka ks:=by
 rcases h with H | ⟨b,o,e,_,j,C⟩
 ·exact .inl H
 ·refine .inr ⟨b,o,e,Lq j,l8 j,(fun e=>by cases e),fun i J=>?_⟩
  obtain⟨c0,c1,c2,c3,z,M,A,F,I⟩:=C i J;exact⟨c0,c1,c2,c3,z,M,A,F,bZ I⟩
def cV (n:Nat):Prop:=∀ (x y:NV) (D:Ty) (lo lo':Nat) (w:wD),Hv w lo n x D->Hv w lo' n y D->Calls prog 35 #[x.val,y.val] w fun e w'=>e = .returned (.bool true)/\Below w.heap.size w w'
theorem dU:∀ n,cV n
 | 0=>fun _ _ _ _ _ _ h=>h.elim
 | n+1=>fun x y D lo lo' w h h'=>by
  obtain⟨tys,ns,ks,hD,⟨T,Y,O⟩,⟨Xz,Uo,M⟩,ht,hn,hk⟩:=h;obtain⟨tys',ns',ks',hD',⟨hy1,hy2,hy3⟩,_,ht',hn',Gc⟩:=h';obtain⟨k,A,N,li,co,ta,tl,V,na,nl,nc,ka,kl,kc⟩:=x;obtain⟨k',tx',N',li',co',ta',tl',tc',na',nl',nc',ka',kl',kc'⟩:=y;dsimp only at hD hD' T Y O hy1 hy2 hy3 ht hn hk ht' hn' Gc;obtain⟨rfl,I,rfl,rfl,rfl,rfl,rfl,rfl⟩:=zeb (hD.symm.trans hD')
  obtain rfl:A=tx':=by cases A; cases tx'; simp at I; rw [I]
  subst T Y O hy1 hy2 hy3;clear hD hD' I;obtain⟨W,J⟩:=xE ((w.alloc (NV.obj ⟨k,A,N,li,co,ta,tys.length,V,na,ns.length,nc,ka,ks.length,kc⟩)).alloc (NV.obj ⟨k,A,N,li,co,ta',tys.length,tc',na',ns.length,nc',ka',ks.length,kc'⟩))
  have C:Below w.heap.size w W:=by rw [J]; exact Zz (Zq _ _) (Zq _ _)
  have Sj:xQ (W.heap[w.heap.size]?=some (NV.obj ⟨k,A,N,li,co,ta,tys.length,V,na,ns.length,nc,ka,ks.length,kc⟩)):=by rw [J]; exact(xA (by simp)).trans (xL w _)
  have Sk:xQ (W.heap[w.heap.size+1]?=some (NV.obj ⟨k,A,N,li,co,ta',tys.length,tc',na',ns.length,nc',ka',ks.length,kc'⟩)):=by rw [J]; exact Bg w _ _
  have U0:=Za (bW na na' nc nc' ns W (zP hn.at C) (zP hn'.at C) (by omega))
  have To:xQ (∀ wx,Below W.heap.size W wx->Calls prog 34 #[.slice ta tys.length V,.slice ta' tys.length tc'] wx fun e w'=>e = .returned (.bool true)/\Below wx.heap.size wx w'):=fun wx z=>nE n (pH n) ta ta' V tc' tys wx (xG (qL ht) (Zz C z)) (xG (qL ht') (Zz C z)) (by omega)
  have H:xQ (∀ wx,Below W.heap.size W wx->wx.heap[w.heap.size]?=some (NV.obj ⟨k,A,N,li,co,ta,tys.length,V,na,ns.length,nc,ka,ks.length,kc⟩)/\wx.heap[w.heap.size+1]?=some (NV.obj ⟨k,A,N,li,co,ta',tys.length,tc',na',ns.length,nc',ka',ks.length,kc'⟩)):=fun wx z=>⟨(z.block _ (xB Sj.o)).trans Sj.o,(z.block _ (xB Sk.o)).trans Sk.o⟩
  have HKA:=Za (dS hk C);have HKB:=Za (dS Gc C);have Ks:=Za C;have IH:=Za (dU n)
  have e3:(A.toList == A.toList)=true:=by simp
  have Gd:ks.length<=100000:=M;clear ht hn hk ht' hn' Gc C Xz Uo M;obtain⟨⟨x0,Z,x2,x3,x4,x5,x6,x7⟩,_,zF⟩:=Zn Sj.o;obtain⟨⟨y0,y1,y2,y3,y4,y5,y6,y7⟩,_,zG⟩:=Zn Sk.o;go_enter func35,ntmps35;go_wp2_with fail;rw [<- J];clear J;refine U0.o.mono ?_;rintro e w1 ⟨rfl,q,rfl⟩;have Zs:Below W.heap.size W (W.drewN q):=below_drewN (Below.refl _ _) q;have Ye:=Za Zs
  clear Zs;go_wp2_with fail;refine(To.o _ Ye.o).mono ?_;rintro e w2 ⟨rfl,Z5⟩;have Xa:=Za (Zz Ye.o Z5);clear Z5;obtain⟨⟨x0,Z,x2,x3,x4,x5,x6,x7⟩,_,zF⟩:=Zn (H.o w2 Xa.o).1;obtain⟨⟨y0,y1,y2,y3,y4,y5,y6,y7⟩,_,zG⟩:=Zn (H.o w2 Xa.o).2;go_wp2_with fail
  go_loopw [7] (fun i wx=>∃ j:Nat,i=iP j/\j<=ks.length/\xQ (Below W.heap.size W wx)) (fun i _=>ks.length - (intOf i).toNat)
  case atStart=>exact⟨0,rfl,xZ _,Xa⟩
  case round =>
   obtain⟨j,rfl,hj,F⟩:=hrel;clear x0 Z x2 x3 x4 x5 x6 x7 y0 y1 y2 y3 y4 y5 y6 y7;obtain⟨⟨x0,Z,x2,x3,x4,x5,x6,x7⟩,_,zF⟩:=Zn (H.o wr F.o).1;obtain⟨⟨y0,y1,y2,y3,y4,y5,y6,y7⟩,_,zG⟩:=Zn (H.o wr F.o).2;clear x0 Z x2 x3 x4 x5 x6 y0 y1 y2 y3 y4 y5 y6;by_cases Zt:j<ks.length
   ·have Qe:(j:Int)<(ks.length:Int):=by omega
    obtain⟨b,o,u,rfl,Zs,Ti,Uv⟩:=dR HKA.o Zt;obtain⟨b',o',v,rfl,Z5,Qd,ht2⟩:=dR HKB.o Zt
    have Ho:xQ (∀ wx,Below wr.heap.size wr wx->wx.cell? (aP w.heap.size 7)=some (.slice (some (aP b o)) ks.length kc)/\wx.cell? (aP (w.heap.size+1) 7)=some (.slice (some (aP b' o')) ks.length kc')/\wx.cell? (aP b (o+j*8))=some (iP u.k)/\wx.cell? (aP b (o+j*8+1))=some (.string u.tx)/\wx.cell? (aP b (o+j*8+2))=some (iP u.N)/\wx.cell? (aP b (o+j*8+3))=some (iP u.li)/\wx.cell? (aP b (o+j*8+4))=some (iP u.co)/\wx.cell? (aP b (o+j*8+5))=some (.slice u.ta u.tl u.tc)/\wx.cell? (aP b (o+j*8+6))=some (.slice u.na u.nl u.nc)/\wx.cell? (aP b (o+j*8+7))=some (.slice u.ka u.kl u.kc)/\d8 wx b' (o'+j*8) (iP v.k) (.string v.tx) (iP v.N) (iP v.li) (iP v.co) (.slice v.ta v.tl v.tc) (.slice v.na v.nl v.nc) (.slice v.ka v.kl v.kc)):=fun wx z=>by
     have hB:=Zz F.o z;have g1:=Ti.keep (hB.block b Zs);have g2:=Qd.keep (hB.block b' Z5);refine⟨(Zn (H.o wx hB).1).1.2.2.2.2.2.2.2,(Zn (H.o wx hB).2).1.2.2.2.2.2.2.2,?_⟩;obtain⟨p0,p1,p2,p3,p4,p5,p6,p7⟩:=g1;exact⟨p0,p1,p2,p3,p4,p5,p6,p7,g2⟩
    have HC:xQ (∀ wx,Below wr.heap.size wr wx->Calls prog 35 #[u.val,v.val] wx fun e w'=>e = .returned (.bool true)/\Below wr.heap.size wr w'):=fun wx z =>
     (IH.o _ _ ks[j] lo lo' wx (pD Uv (Zz F.o z)) (pD ht2 (Zz F.o z))).mono fun e w' ⟨e1,I⟩=>⟨e1,Zz z I⟩
    have Uq:=Ho.o wr.drew (Below.refl _ _).drew;clear Ti Qd Uv ht2;go_wp2_with fail
    go_region_held (fun W=>W.cell? (aP w.heap.size 7)=some (.slice (some (aP b o)) ks.length kc)/\W.cell? (aP (w.heap.size+1) 7)=some (.slice (some (aP b' o')) ks.length kc')/\W.cell? (aP b (o+j*8))=some (iP u.k)/\W.cell? (aP b (o+j*8+1))=some (.string u.tx)/\W.cell? (aP b (o+j*8+2))=some (iP u.N)/\W.cell? (aP b (o+j*8+3))=some (iP u.li)/\W.cell? (aP b (o+j*8+4))=some (iP u.co)/\W.cell? (aP b (o+j*8+5))=some (.slice u.ta u.tl u.tc)/\W.cell? (aP b (o+j*8+6))=some (.slice u.na u.nl u.nc)/\W.cell? (aP b (o+j*8+7))=some (.slice u.ka u.kl u.kc)/\d8 W b' (o'+j*8) (iP v.k) (.string v.tx) (iP v.N) (iP v.li) (iP v.co) (.slice v.ta v.tl v.tc) (.slice v.na v.nl v.nc) (.slice v.ka v.kl v.kc)) (with_reducible assumption) (first
     | (go_at_call 35; refine(HC.o _ (by first | exact Below.refl _ _ | exact below_drewN (Below.refl _ _) _ | exact(Below.refl _ _).drew)).mono ?_; rintro e w5 ⟨rfl,Th⟩; have t5:=Ho.o _ Th; have Vm:=Za Th; clear Th))
    all_goals go_wp2_with fail
    all_goals exact⟨⟨j+1,by go_num,by omega,Zz F.o Vm.o⟩,by simp [intOf]; omega⟩
   ·have Qe:¬ (j:Int)<(ks.length:Int):=by omega
    go_wp2_with fail;go_ret;exact⟨rfl,Zz Ks.o F.o⟩
end
end Go.Proofs.YtoppemkjhhlegaaGreatDoor
